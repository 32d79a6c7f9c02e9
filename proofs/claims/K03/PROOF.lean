import PyProof.Rows.All
import Wide.All
import OpenK.AllK
import Wide.FinOn
import PyProof.EqAt
import PyProof.EqKinds
import PyProof.TupleCall
import KE.KStateDown
import Lean
import HandS.Base
import HandS.Call
import HandS.List
import HandS.Comp
import HandS.Ends
import HandS.Dict
import HandS.Iter
import HandS.More
import HandS.Words
import HandS.WordsList
import HandS.WordsDict
import HandS.Exc
import HandS.WordsExc
import HandS.Defaults
import HandS.Head0
import HandS.Head1
import HandS.Head2
import HandS.HeadEnd
import HandS.HeadHook1
import HandS.HeadHook2
import HandS.EndBits
import HandS.Wide
import HandS.IsInst
import HandS.Style
import HandS.Flow
import HandS.SortInts
import HandS.ExcIs
import HandS.Conv
import HandS.Text
import HandS.Walk
import HandS.MakeKwOnly
import HandS.Codes
import HandS.Zip0
import HandS.DictComp
import HandS.DictEq
import HandS.NoneIn
import HandS.Small
import KE.KDictPairs
import KE.GoesEnumKw
import KE.KDictCopyH
import HandS.ExcInit
import HandS.ExcField
import HandS.OwnEq
import HandS.TryOnly
import PySem.Challenge.RW_editionrows_k03_whole_words
set_option Elab.async false
set_option linter.all false
set_option maxRecDepth 100000
set_option maxHeartbeats 4000000
/-! What every text of ours begins with: a called def in one word, the head's Hook with one more Bool, the end with the script's bits. -/
namespace Evl2
open PySem PySem.Spec PyProof.Rows L2
/-- a def of the text, with its promise, as a caller takes it -/
structure Callee (P : Program) (w : World) (K : PySem.W.Frag) (mg : Str → Option Value) (base : Heap) (CX : CXT) (k : Nat) (x : Str) (ps : List Str) (dvs : List V) (sp : Sp) : Prop where
  ex : ∃ (fd : FuncData) (ds : List Value), FnOk P w K mg base CX k (He.ga K x) fd ps sp ∧ Binds K fd ps ds ∧ Vals dvs ds
  kp : PySem.W.keepIn K (.ref (He.ga K x)) = true
  g : mg x = some (.ref (He.ga K x))
theorem Callee.up {P : Program} {w : World} {K : PySem.W.Frag} {mg : Str → Option Value} {base : Heap} {CX : CXT} {j k : Nat} {x : Str} {ps : List Str} {dvs : List V} {sp : Sp}
    (C : Callee P w K mg base CX j x ps dvs sp) (h : j ≤ k) : Callee P w K mg base CX k x ps dvs sp := by
  obtain ⟨fd, ds, F, b, v⟩ := C.ex
  exact ⟨⟨fd, ds, F.mono h, b, v⟩, C.kp, C.g⟩
/-- f(e, ..) -/
theorem pcall {X : Cx} {k : Nat} {x : Str} {ps : List Str} {dvs : List V} {sp : Sp} {p pos : Pos} {e : Expr} {es : List Expr} {t : TA} (C : Callee X.prog X.w X.K X.mg X.base CX0 k x ps dvs sp) (hr : Room k X.A) (ha : PA X (e :: es) t) (hg : Gl X x := by rfl)
    (hdb : (x == ("__debug__" : Str)) = false := by decide) (he : starEach (e :: es) X.env = (false, eval e X.env) :: starEach es X.env := by rfl) (hpl : (backTo pos (starEach es X.env)).any (·.1) = false := by rfl) :
    PE X (.Call (.Name x p) (e :: es) [] pos) (tCall sp dvs E0 t) := by
  obtain ⟨fd, ds, F, b, v⟩ := C.ex
  exact pe_call F hr hg C.g C.kp b v pass0 ha hdb he hpl
/-- f() -/
theorem pcall0 {X : Cx} {k : Nat} {x : Str} {ps : List Str} {dvs : List V} {sp : Sp} {p pos : Pos} (C : Callee X.prog X.w X.K X.mg X.base CX0 k x ps dvs sp) (hr : Room k X.A) (hg : Gl X x := by rfl)
    (hdb : (x == ("__debug__" : Str)) = false := by decide) : PE X (.Call (.Name x p) [] [] pos) (tCall sp dvs E0 tNil) := by
  obtain ⟨fd, ds, F, b, v⟩ := C.ex
  exact pe_call0 F hr hg C.g C.kp b v pass0 hdb
/-! ### the head's Hook: the library's facts and one more Bool -/
abbrev AlP : Type := He.AlD × Bool
/-- addresses not yet seen, told by the bits of a number -/
def newA : List Addr → Nat → List Addr → (Nat → List Addr → List Addr) → List Addr
  | [], s, acc, k => k s acc
  | a :: r, s, acc, k => HandSHeadRun.frNat a fun a => match Nat.beq (Nat.land (Nat.shiftRight s a) 1) 1 with
    | true => newA r s acc k
    | false => HandSHeadRun.frNat (Nat.lor s (Nat.shiftLeft 1 a)) fun s => newA r s (a :: acc) k
def refsA (g : Addr → Option Obj) : List Addr → List Addr
  | [] => []
  | a :: r => (match g a with
    | some o => He.refsD o
    | none => []) ++ refsA g r
/-- the addresses reached from the globals in so many steps, each object looked at once -/
def levA (g : Addr → Option Obj) : Nat → Nat → List Addr → List Addr
  | 0, _, fr => fr
  | n + 1, s, fr => newA (refsA g fr) s [] fun s fr' => fr ++ levA g n s fr'
def asW (g : Addr → Option Obj) (n : Nat) : List Addr := levA g n (Nat.shiftLeft 1 mainGlobals) [mainGlobals]
def mapV : List He.DefD → List He.FnW
  | [] => []
  | d :: r => d.val :: mapV r
def obsP (n : Nat) (fa : List He.Fa) (fn : List He.DefD) (ex : PySem.W.Frag → Bool) (g : Addr → Option Obj) : AlP := (He.obsD fa fn (He.frG g (asW g n)), ex (He.frG g (asW g n)))
def valP (fn : List He.DefD) : AlP := ((true, mapV fn), true)
theorem mapV_eq : ∀ fn : List He.DefD, mapV fn = fn.map He.DefD.val
  | [] => rfl
  | d :: r => congrArg (d.val :: ·) (mapV_eq r)
theorem valP_eq (fn : List He.DefD) : valP fn = (He.valD fn, true) := by
  unfold valP He.valD
  rw [mapV_eq]
def hookP (n : Nat) (fa : List He.Fa) (fn : List He.DefD) (ex : PySem.W.Frag → Bool) : PySem.W.Hook where
  α := AlP
  obs := fun s => obsP n fa fn ex s.heap.get?
  val := fun _ => valP fn
  says := fun _ h => ∃ K : PySem.W.Frag, K.In h ∧ (He.SaysD fa fn K ∧ ex K = true)
  of := fun _ _ e => ⟨_, He.frG_in, (congrArg (fun z : AlP => z.1) e).trans (congrArg (fun z : AlP => z.1) (valP_eq fn)), congrArg (fun z : AlP => z.2) e⟩
  keeps := fun _ _ _ ⟨K, hK, c⟩ k => ⟨K, PySem.W.Frag.In.keeps hK k, c⟩
theorem obsP_eq {n : Nat} {fa : List He.Fa} {fn : List He.DefD} {ex : PySem.W.Frag → Bool} {g : Addr → Option Obj} {s : Shared} (h : ∀ a, g a = s.heap.get? a) : obsP n fa fn ex g = (hookP n fa fn ex).obs s := by
  have e : g = s.heap.get? := funext h
  rw [e] <;> rfl
/-- what a law's end wants of its promise at a written part K -/
def LawOk (l : PySem.W.OpenLaw) (w : World) (mg : Str → Option Value) (CX : CXT) (k n : Nat) (x : Str) (fa : Addr) (K : PySem.W.Frag) : Prop :=
  ∃ (fd : FuncData) (sp : Sp), (∀ (s : Shared) (u : Value), BindsTo s fd ⟨[u], []⟩ [(x, u)]) ∧
    (∀ (H : Hp) (a : Addr) (ns : List Int), ns.length ≤ n → (∀ z ∈ ns, Builtin.Int.intBits z ≤ 1048576) → Only H → SqL K H a (ns.map V.int) → sp [.ref a] H (fun v _ => v = .bl true) fun _ _ _ => False) ∧
    ∀ base : Heap, K.In base → base.Ns mainGlobals mg → FnOk l.prog w K mg base CX k fa fd [x] sp
theorem walk_bits {l : PySem.W.OpenLaw} {n k : Nat} {q : Program} {loose : List Str} {XP : (Str → Option Value) → Heap → Prop} {YP : World → Heap → Prop} {d : DefRec} {CX : CXT} {x : Str} (hn : l.most = some n) (hn2 : n ≤ sizeLine) (hdf : d.params.defaults = []) (hr : Room k callerA)
    (F : ∀ (w : World) (mg : Str → Option Value) (fa : Addr) (h : Heap), YP w h → h.Ns mainGlobals mg → mg d.name = some (.ref fa) → ∃ K : PySem.W.Frag, K.In h ∧ LawOk l w mg CX k n x fa K)
    (hCX : ∀ (H : Hp) (s : Shared) (e : Value) (s' : Shared), CX [] H s (fun _ _ _ => False) e s' → False) : PySem.W.WalkO q loose XP YP l.row.toRowW d [] (fun f vs => PySem.call f vs) := by
  refine Att.attach_callB hn hdf fun w s₀ s₁ mg mb fa o pm cd doc a vs ns G Y ho hd hcd hmg hobj hints hlen hbits hg => ?_
  obtain ⟨K, KX, fd, sp, hb, hsp, hF⟩ := F w mg fa _ Y G.T.g hmg
  exact law_call KX G.T.g G.T.b G.T.builtins G.T.nolimit hg hobj hints (Nat.le_trans hlen hn2) hr hF hb (fun H hO hS => hsp H a ns hlen hbits hO hS) fun H e s' => hCX H s₁ e s'
end Evl2
/-! ### more words of ours -/
namespace Evl2
open PySem PySem.Spec PyProof.Rows L2
section
variable {P : Program} {w : World} {K : PySem.W.Frag} {mg : Str → Option Value} {base : Heap}
/-- a method without defaults -/
theorem mkMeth {m q : Str} {params : Arguments} {body : List Stmt} {scope : Scope} {N ps : List Str} {k : Nat} {sp : Sp} {f : Addr} (hF : ∃ fd, FunD K m q params body scope [] [] f fd) (S : FnScope N ps scope)
    (hb : ∀ (kV doc pm : Value) (an : Option Addr) (cdv ct : Value) (us : List Value), us.length = ps.length → bindArgs (PySem.W.fnOf m q params body scope .none kV doc pm an cdv ct) ⟨us, []⟩ = pure (ps.zip us))
    (len : ∀ vs H Q E, sp vs H Q E → vs.length = ps.length)
    (hbody : ∀ (cdv : Value) (A : Around) (outer : List Env) (s : Shared) (H : Hp) (vs : List V) (Q : VK) (E : XK), Room k (A.deeper (envOfC q scope s.heap.objs.size f cdv)) → sp vs H Q E →
      ∃ t, PSs (cxOf CX0 P w K mg base N q scope f cdv A outer s H E).nox body t ∧ t { nx := fun _ H' => Q .non H', rt := Q } (start N vs) H) : ∃ fd, FnOk P w K mg base CX0 (k + 1) f fd ps sp ∧ Binds K fd ps [] := by
  obtain ⟨fd, F⟩ := hF
  refine ⟨fd, F.ok S len fun cdv A outer s H vs Q E hr h => ?_, F.bindsN hb⟩
  obtain ⟨t, h1, h2⟩ := hbody cdv A outer s H vs Q E hr h
  exact ⟨t, h1.nox, h2⟩
/-- a def without defaults, as a callee -/
theorem mkCallee {x y : Str} {params : Arguments} {body : List Stmt} {scope : Scope} {N ps : List Str} {k : Nat} {sp : Sp} (hF : ∃ fd, FunD K y y params body scope [] [] (He.ga K x) fd) (hg : mg x = some (.ref (He.ga K x))) (S : FnScope N ps scope)
    (hb : ∀ (kV doc pm : Value) (an : Option Addr) (cdv ct : Value) (us : List Value), us.length = ps.length → bindArgs (PySem.W.fnOf y y params body scope .none kV doc pm an cdv ct) ⟨us, []⟩ = pure (ps.zip us))
    (len : ∀ vs H Q E, sp vs H Q E → vs.length = ps.length)
    (hbody : ∀ (cdv : Value) (A : Around) (outer : List Env) (s : Shared) (H : Hp) (vs : List V) (Q : VK) (E : XK), Room k (A.deeper (envOfC y scope s.heap.objs.size (He.ga K x) cdv)) → sp vs H Q E →
      ∃ t, PSs (cxOf CX0 P w K mg base N y scope (He.ga K x) cdv A outer s H E).nox body t ∧ t { nx := fun _ H' => Q .non H', rt := Q } (start N vs) H) : Callee P w K mg base CX0 (k + 1) x ps [] sp := by
  obtain ⟨fd, F⟩ := hF
  refine ⟨⟨fd, [], F.ok S len fun cdv A outer s H vs Q E hr h => ?_, F.bindsN hb, .nil⟩, F.kp, hg⟩
  obtain ⟨t, h1, h2⟩ := hbody cdv A outer s H vs Q E hr h
  exact ⟨t, h1.nox, h2⟩
end
theorem s_whenX {t : TT} {tu : TS} {D : Ends} {σ : L2.St} {H : Hp} (P : Hp → Prop) (test : ∀ R : Bool → Hp → Prop, (∀ b H1, P H1 → R b H1) → t σ H R) (body : ∀ H1, P H1 → tu D σ H1) (skip : ∀ H1, P H1 → D.nx σ H1) : tIfS t tu tNext D σ H :=
  test _ fun b H1 p => by
    cases b
    · exact iteF (skip H1 p)
    · exact iteT (body H1 p)
theorem nxt {D : Ends} {σ : L2.St} {H : Hp} (h : D.nx σ H) : tNext D σ H := h
theorem iteD {c A B : Prop} [Decidable c] (hc : ¬ c) (h : B) : if decide c = true then A else B := by
  rw [decide_eq_false hc]
  exact iteF h
theorem iteDT {c A B : Prop} [Decidable c] (hc : c) (h : A) : if decide c = true then A else B := by
  rw [decide_eq_true hc]
  exact iteT h
theorem iteNF {c A B : Prop} [Decidable c] (hc : ¬ c) (h : A) : if (!decide c) = true then A else B := by
  rw [decide_eq_false hc]
  exact iteT h
theorem nes {a b : Str} (h : a ≠ b) : ¬ V.str a = V.str b := fun z => h (V.str.inj z)
theorem nei {a b : Int} (h : a ≠ b) : ¬ V.int a = V.int b := fun z => h (V.int.inj z)
/-- an own error class that is kept -/
def excB (K : PySem.W.Frag) (x : Str) : Bool := PySem.W.keepIn K (.ref (He.ga K x))
/-- what isinstance asks of an own class -/
def insB (K : PySem.W.Frag) (x : Str) : Bool := decide (PySem.W.findIn K (.ref (He.ga K x)) "__class__" = some (some (.builtin "object.__class__"))) && (decide (PySem.W.specialIn K (.builtin "object.__class__") "__get__" = some (some (.builtin "getset_descriptor.__get__"))) &&
  (decide (PySem.W.takesIn K (.builtin "object.__class__") = some true) && decide (PySem.W.mroIn K (He.ga K x) (.type "object") = some true)))
theorem insC_of {K : PySem.W.Frag} {x : Str} (h : insB K x = true) (c : Cls K (He.ga K x)) : C8.InsC K (He.ga K x) := by
  unfold insB at h
  rw [Bool.and_eq_true, Bool.and_eq_true, Bool.and_eq_true] at h
  exact ⟨c, of_decide_eq_true h.1, of_decide_eq_true h.2.1, of_decide_eq_true h.2.2.1, of_decide_eq_true h.2.2.2, if_pos (beq_self_eq_true _)⟩
/-- what != of an own class asks -/
def neB (K : PySem.W.Frag) (x : Str) : Bool := decide (PySem.W.findIn K (.ref (He.ga K x)) "__ne__" = some (some (.builtin "object.__ne__"))) && decide (PySem.W.mroIn K (He.ga K x) (.type "object") = some true)
structure NeC (K : PySem.W.Frag) (C : Addr) : Prop where
  at_ : PySem.W.findIn K (.ref C) "__ne__" = some (some (.builtin "object.__ne__"))
  ob : PySem.W.mroIn K C (.type "object") = some true
theorem neC_of {K : PySem.W.Frag} {x : Str} (h : neB K x = true) : NeC K (He.ga K x) := by
  unfold neB at h
  rw [Bool.and_eq_true] at h
  exact ⟨of_decide_eq_true h.1, of_decide_eq_true h.2⟩
/-- an own error class over ValueError with an own __init__ that keeps its argument under f -/
def oexB (K : PySem.W.Frag) (x f : Str) : Bool := (match K.lookup (He.ga K x) with
  | some ⟨.type "type", _, .cls cd, sl⟩ => (match cd.mro, sl.toList with
    | .ref C' :: bm, [_, _, _, _, some (.builtin n), _] => C' == He.ga K x && (n == "ValueError.__new__" && (!cd.hasDel && (PySem.HandSPX.refsVE bm && cd.hasDict)))
    | _, _ => false)
  | _ => false) && (decide (PySem.W.findIn K (.ref (He.ga K x)) "__setattr__" = some (some (.builtin "object.__setattr__"))) && (decide (PySem.W.subIn K (.ref (He.ga K x)) (.type "BaseException") = some true) && (decide (PySem.W.typeIn K (.ref (He.ga K x)) = some (.type "type")) &&
    (PySem.W.keepIn K (.ref (He.ga K x)) && (xfB K (He.ga K x) && (decide (PySem.W.findIn K (.ref (He.ga K x)) "__init__" = some (some (.ref (He.ma K (He.ga K x) "__init__")))) && (decide (PySem.W.typeIn K (.ref (He.ma K (He.ga K x) "__init__")) = some (.type "function")) &&
    (decide (PySem.W.findIn K (.ref (He.ga K x)) f = some none) && decide (PySem.W.exmOne K (.ref (He.ga K x)) (.ref (He.ga K x)) = some true)))))))))
structure OexF (K : PySem.W.Frag) (x f : Str) : Prop where
  o : OexC K (He.ga K x)
  xf : XfC K (He.ga K x)
  i : PySem.W.findIn K (.ref (He.ga K x)) "__init__" = some (some (.ref (He.ma K (He.ga K x) "__init__")))
  ti : PySem.W.typeIn K (.ref (He.ma K (He.ga K x) "__init__")) = some (.type "function")
  no : PySem.W.findIn K (.ref (He.ga K x)) f = some none
  me : PySem.W.exmOne K (.ref (He.ga K x)) (.ref (He.ga K x)) = some true
theorem oexB_ok {K : PySem.W.Frag} {x f : Str} (h : oexB K x f = true) : OexF K x f := by
  unfold oexB at h
  simp only [Bool.and_eq_true, decide_eq_true_eq] at h
  obtain ⟨h0, h1, h2, h3, h4, h5, h6, h7, h8, h9⟩ := h
  refine ⟨⟨?_, h1, h2, h3, h4⟩, xfB_ok h5, h6, h7, h8, h9⟩
  split at h0
  · rename_i dd cd sl ho
    split at h0
    · rename_i C' bm k0 k1 k2 k3 n k5 hm hs
      simp only [Bool.and_eq_true, beq_iff_eq, Bool.not_eq_true'] at h0
      obtain ⟨hc, hn, hdel, hve, hd⟩ := h0
      obtain ⟨nm, bs, mro, ns, qn, hd', sn, sub, ab, col, del⟩ := cd
      dsimp only at hm hdel hd
      subst hm hdel hd hc hn
      have hsl : sl = #[k0, k1, k2, k3, some (.builtin "ValueError.__new__"), k5] := by
        obtain ⟨l⟩ := sl
        simp only at hs
        rw [hs]
      subst hsl
      exact ⟨_, _, _, _, _, _, _, _, _, _, _, _, _, _, _, ho, hve⟩
    · cases h0
  · cases h0
/-- the empty tuple of the written part -/
def emptyTupB (K : PySem.W.Frag) (a : Addr) : Bool := match K.lookup a with
  | some ⟨.type c, _, .seq its _, _⟩ => decide (c = "tuple") && decide (its.size = 0)
  | _ => false
/-- a pool of draws: a list of two ints -/
def Pl (H : Hp) (a : Addr) : Prop := ∃ z0 z1 : Int, H a = some (.lst [.int z0, .int z1])
/-- all but what stands at a is as it was, at a stands a pool -/
def PlEx (a : Addr) (H H' : Hp) : Prop := (∀ b o, b ≠ a → H b = some o → H' b = some o) ∧ Pl H' a
theorem mod_lo {i j : Int} (h : 0 < j) : 0 ≤ i.fmod j := Int.fmod_nonneg_of_pos i h
theorem mod_hi {i j : Int} (h : 0 < j) : i.fmod j < j := Int.fmod_lt_of_pos i h
/-- values of built-in types: is it an int (no bool)? -/
def isI : V → Bool
  | .int _ => true
  | _ => false
theorem kit_whole {K : PySem.W.Frag} {H : Hp} {x : V} {t : String} (ty : TyX K H x (.type t)) : ∃ a b : Bool, kitB t "int" = some a ∧ kitB t "bool" = some b ∧ (a && !b) = isI x := by
  cases ty with
  | base h => cases h <;> first | exact ⟨true, false, by decide +kernel, by decide +kernel, rfl⟩ | exact ⟨true, true, by decide +kernel, by decide +kernel, rfl⟩ | exact ⟨false, false, by decide +kernel, by decide +kernel, rfl⟩
  | _ => exact ⟨false, false, by decide +kernel, by decide +kernel, rfl⟩
/-! ### heaps -/
theorem same_new {H : Hp} {p : Addr} {o : HO} (h : H p = none) : Same H (upd H p o) := fun a u e => by
  rw [upd_ne (ne_of_none e h)]
  exact e
theorem same_mut {H H' : Hp} {p : Addr} {o : HO} (e : Same H H') (h : H p = none) : Same H (upd H' p o) := fun a u ha => by
  rw [upd_ne (ne_of_none ha h)]
  exact e a u ha
theorem same_tup {K : PySem.W.Frag} {H H' : Hp} {a : Addr} {xs : List V} (e : Same H H') (h : SqT K H a xs) : SqT K H' a xs := by
  rcases h with (h | ⟨o, h⟩) | h
  · exact .inl (.inl (e _ _ h))
  · exact .inl (.inr ⟨o, e _ _ h⟩)
  · exact .inr h
theorem sqL_of {K : PySem.W.Frag} {H : Hp} {a : Addr} {xs : List V} (h : H a = some (.lst xs)) : SqL K H a xs := .inl (.inl h)
theorem sqT_of {K : PySem.W.Frag} {H : Hp} {a : Addr} {xs : List V} (h : H a = some (.tup xs)) : SqT K H a xs := .inl (.inl h)
/-! ### comprehensions that change nothing -/
section
variable {K : PySem.W.Frag} {σ : L2.St} {H : Hp} {tl te : TE} {ta : TA} {tt : TT} {j : Nat} {vs : List Nat} {Q : VK} {xs : List V}
theorem lc_one {f : V → Bool} {v : V → V} {H' : Hp} {D : Addr} {zs : List V} {x : V} (hD : H D = none) (hz : zs.length ≤ 100000) {σ2 : L2.St} (p : Same H H' ∧ H' D = some (.lst zs))
    (ht : ∀ R : Bool → Hp → Prop, (∀ H2, Same H' H2 → R (f x) H2) → tt σ2 H' R) (he : f x = true → ∀ H', Same H H' → ∀ R : VK, (∀ H2, Same H' H2 → R (v x) H2) → te σ2 H' R) {N : Hp → Prop}
    (hN : ∀ H', Same H H' → H' D = some (.lst (zs ++ ([x].filter f).map v)) → N H') :
    tt σ2 H' fun b H3 => if b = true then te σ2 H3 fun y H4 => ∃ acc, H4 D = some (.lst acc) ∧ acc.length < sizeLine ∧ N (upd H4 D (.lst (acc ++ [y]))) else N H3 := by
  refine ht _ fun H3 e3 => ?_
  cases hf : f x with
  | true =>
    refine iteT (he hf H3 (p.1.trans e3) _ fun H4 e4 => ⟨zs, e4 D _ (e3 D _ p.2), Nat.lt_of_le_of_lt hz (by decide), hN _ (same_mut ((p.1.trans e3).trans e4) hD) ?_⟩)
    rw [upd_same, List.filter_cons, if_pos hf]
    rfl
  | false =>
    refine iteF (hN _ (p.1.trans e3) ?_)
    rw [List.filter_cons, if_neg (by rw [hf]; decide)]
    show H3 D = some (.lst (zs ++ []))
    rw [List.append_nil]
    exact e3 D _ p.2
theorem take_one (f : V → Bool) (v : V → V) {i : Nat} {x : V} (h : xs[i]? = some x) : ((xs.take i).filter f).map v ++ ([x].filter f).map v = ((xs.take (i + 1)).filter f).map v := by
  rw [List.take_add_one, h, List.filter_append, List.map_append]
  rfl
theorem take_len (f : V → Bool) (v : V → V) (i : Nat) : (((xs.take i).filter f).map v).length ≤ xs.length := by
  rw [List.length_map]
  refine Nat.le_trans (List.length_filter_le _ _) ?_
  rw [List.length_take]
  exact Nat.min_le_right _ _
theorem tlc_L (f : V → Bool) (v : V → V) (htl : ∀ R : VK, (∀ a H1, Same H H1 → SqL K H1 a xs → R (.ref a) H1) → tl σ H R) (hz : xs.length ≤ 100000) (hw : ∀ x, wipe ((wipe σ vs).set j (some x)) vs = wipe σ vs)
    (ht : ∀ x ∈ xs, ∀ H', Same H H' → ∀ R : Bool → Hp → Prop, (∀ H2, Same H' H2 → R (f x) H2) → tt ((wipe σ vs).set j (some x)) H' R)
    (he : ∀ x ∈ xs, f x = true → ∀ H', Same H H' → ∀ R : VK, (∀ H2, Same H' H2 → R (v x) H2) → te ((wipe σ vs).set j (some x)) H' R)
    (k : ∀ D H', H D = none → Same H H' → H' D = some (.lst ((xs.filter f).map v)) → Q (.ref D) H') : tLc (iList K tl) (gName j) tt te vs σ H Q := by
  refine htl _ fun a H1 e1 hs => ⟨a, rfl, ⟨xs, hs⟩, fun D hD => ?_⟩
  have key : ∀ i x H', xs[i]? = some x → (Same H1 H' ∧ H' D = some (.lst (((xs.take i).filter f).map v))) → gName j x (wipe σ vs) H' fun σ2 H2 => wipe σ2 vs = wipe σ vs ∧ tt σ2 H2 fun b H3 =>
      if b = true then te σ2 H3 fun y H4 => ∃ acc, H4 D = some (.lst acc) ∧ acc.length < sizeLine ∧ (Same H1 (upd H4 D (.lst (acc ++ [y]))) ∧ (upd H4 D (.lst (acc ++ [y]))) D = some (.lst (((xs.take (i + 1)).filter f).map v)))
      else (Same H1 H3 ∧ H3 D = some (.lst (((xs.take (i + 1)).filter f).map v))) := fun i x H' hi p =>
    ⟨hw x, lc_one (N := fun H' => Same H1 H' ∧ H' D = some (.lst (((xs.take (i + 1)).filter f).map v))) (f := f) (v := v) (x := x) hD (Nat.le_trans (take_len f v i) hz) p (ht x (List.mem_of_getElem? hi) H' (e1.trans p.1))
      (fun hf H2 e2 => he x (List.mem_of_getElem? hi) hf H2 (e1.trans e2)) fun H2 s2 d2 => ⟨s2, by rw [d2, take_one f v hi]⟩⟩
  refine lc_list (xs := xs) (fun i H' => Same H1 H' ∧ H' D = some (.lst (((xs.take i).filter f).map v))) ⟨same_new hD, ?_⟩ (fun i H' _ p => p.1.seq hs) key fun H' p => k D H' (e1.free hD) (e1.trans p.1) ?_
  · exact upd_same
  · have q := p.2
    rw [List.take_length] at q
    exact q
theorem tlc_T (f : V → Bool) (v : V → V) (htl : ∀ R : VK, (∀ a H1, Same H H1 → SqT K H1 a xs → R (.ref a) H1) → tl σ H R) (hz : xs.length ≤ 100000) (hw : ∀ x, wipe ((wipe σ vs).set j (some x)) vs = wipe σ vs)
    (ht : ∀ x ∈ xs, ∀ H', Same H H' → ∀ R : Bool → Hp → Prop, (∀ H2, Same H' H2 → R (f x) H2) → tt ((wipe σ vs).set j (some x)) H' R)
    (he : ∀ x ∈ xs, f x = true → ∀ H', Same H H' → ∀ R : VK, (∀ H2, Same H' H2 → R (v x) H2) → te ((wipe σ vs).set j (some x)) H' R)
    (k : ∀ D H', H D = none → Same H H' → H' D = some (.lst ((xs.filter f).map v)) → Q (.ref D) H') : tLc (iTup K tl) (gName j) tt te vs σ H Q := by
  refine htl _ fun a H1 e1 hs => ⟨a, rfl, ⟨xs, hs⟩, fun D hD => ?_⟩
  have key : ∀ i x H', xs[i]? = some x → (Same H1 H' ∧ H' D = some (.lst (((xs.take i).filter f).map v))) → gName j x (wipe σ vs) H' fun σ2 H2 => wipe σ2 vs = wipe σ vs ∧ tt σ2 H2 fun b H3 =>
      if b = true then te σ2 H3 fun y H4 => ∃ acc, H4 D = some (.lst acc) ∧ acc.length < sizeLine ∧ (Same H1 (upd H4 D (.lst (acc ++ [y]))) ∧ (upd H4 D (.lst (acc ++ [y]))) D = some (.lst (((xs.take (i + 1)).filter f).map v)))
      else (Same H1 H3 ∧ H3 D = some (.lst (((xs.take (i + 1)).filter f).map v))) := fun i x H' hi p =>
    ⟨hw x, lc_one (N := fun H' => Same H1 H' ∧ H' D = some (.lst (((xs.take (i + 1)).filter f).map v))) (f := f) (v := v) (x := x) hD (Nat.le_trans (take_len f v i) hz) p (ht x (List.mem_of_getElem? hi) H' (e1.trans p.1))
      (fun hf H2 e2 => he x (List.mem_of_getElem? hi) hf H2 (e1.trans e2)) fun H2 s2 d2 => ⟨s2, by rw [d2, take_one f v hi]⟩⟩
  refine lc_tup (xs := xs) (fun i H' => Same H1 H' ∧ H' D = some (.lst (((xs.take i).filter f).map v))) ⟨same_new hD, ?_⟩ (fun i H' _ p => same_tup p.1 hs) key fun H' p => k D H' (e1.free hD) (e1.trans p.1) ?_
  · exact upd_same
  · have q := p.2
    rw [List.take_length] at q
    exact q
theorem rg_at {n i : Nat} (h : i < n) : ((List.range n).map fun m : Nat => V.int (m : Int))[i]? = some (V.int (i : Int)) := by
  rw [List.getElem?_map, List.getElem?_range h]
  rfl
theorem tlc_R (f : V → Bool) (v : V → V) (n : Int) (hta : ∀ R : List V → Hp → Prop, (∀ H1, Same H H1 → R [.int n] H1) → ta σ H R) (hz : n ≤ 100000) (hw : ∀ x, wipe ((wipe σ vs).set j (some x)) vs = wipe σ vs)
    (ht : ∀ m : Nat, (m : Int) < n → ∀ H', Same H H' → ∀ R : Bool → Hp → Prop, (∀ H2, Same H' H2 → R (f (.int m)) H2) → tt ((wipe σ vs).set j (some (.int m))) H' R)
    (he : ∀ m : Nat, (m : Int) < n → f (.int m) = true → ∀ H', Same H H' → ∀ R : VK, (∀ H2, Same H' H2 → R (v (.int m)) H2) → te ((wipe σ vs).set j (some (.int m))) H' R) (hlo : -100000 ≤ n)
    (k : ∀ D H', H D = none → Same H H' → H' D = some (.lst ((((List.range n.toNat).map fun m : Nat => V.int (m : Int)).filter f).map v)) → Q (.ref D) H') : tLc (iRng1 ta) (gName j) tt te vs σ H Q := by
  refine hta _ fun H1 e1 => ⟨n, rfl, by omega, by omega, fun D hD => ?_⟩
  have key : ∀ i H', i < n.toNat → (Same H1 H' ∧ H' D = some (.lst (((((List.range n.toNat).map fun m : Nat => V.int (m : Int)).take i).filter f).map v))) → gName j (.int ((0 : Int) + (i : Int))) (wipe σ vs) H' fun σ2 H2 => wipe σ2 vs = wipe σ vs ∧ tt σ2 H2 fun b H3 =>
      if b = true then te σ2 H3 fun y H4 => ∃ acc, H4 D = some (.lst acc) ∧ acc.length < sizeLine ∧ (Same H1 (upd H4 D (.lst (acc ++ [y]))) ∧ (upd H4 D (.lst (acc ++ [y]))) D = some (.lst (((((List.range n.toNat).map fun m : Nat => V.int (m : Int)).take (i + 1)).filter f).map v)))
      else (Same H1 H3 ∧ H3 D = some (.lst (((((List.range n.toNat).map fun m : Nat => V.int (m : Int)).take (i + 1)).filter f).map v))) := fun i H' hi p => by
    have e0 : (0 : Int) + (i : Int) = (i : Int) := Int.zero_add _
    rw [e0]
    have hin : (i : Int) < n := by omega
    have hl := take_len (xs := (List.range n.toNat).map fun m : Nat => V.int (m : Int)) f v i
    have hl2 : ((List.range n.toNat).map fun m : Nat => V.int (m : Int)).length = n.toNat := by simp
    exact ⟨hw _, lc_one (N := fun H' => Same H1 H' ∧ H' D = some (.lst (((((List.range n.toNat).map fun m : Nat => V.int (m : Int)).take (i + 1)).filter f).map v))) (f := f) (v := v) (x := .int i) hD (by omega) p (ht i hin H' (e1.trans p.1))
      (fun hf H2 e2 => he i hin hf H2 (e1.trans e2)) fun H2 s2 d2 => ⟨s2, by rw [d2, take_one f v (rg_at hi)]⟩⟩
  refine lc_range (lo := 0) (n := n.toNat) (fun i H' => Same H1 H' ∧ H' D = some (.lst (((((List.range n.toNat).map fun m : Nat => V.int (m : Int)).take i).filter f).map v))) ⟨same_new hD, ?_⟩ key fun H' p => k D H' (e1.free hD) (e1.trans p.1) ?_
  · exact upd_same
  · have q := p.2
    rw [List.take_of_length_le (by simp)] at q
    exact q
end
section
variable {K : PySem.W.Frag} {σ : L2.St} {H : Hp} {te ta : TE} {tt : TT} {U : TS} {D : Ends}
/-- if t: l.append(e), told by the truth of t -/
theorem q_ifapp {l : Addr} {zs : List V} {v : V} (b : Bool) (ht : ∀ R : Bool → Hp → Prop, (∀ H2, Same H H2 → R b H2) → tt σ H R) (hl : H l = some (.lst zs)) (hz : zs.length ≤ 100000) (ha : ∀ (H : Hp) (R : VK), R (.ref l) H → ta σ H R) (he : ∀ (H : Hp) (R : VK), R v H → te σ H R)
    (k : ∀ H', (∀ c o, c ≠ l → H c = some o → H' c = some o) → H' l = some (.lst (zs ++ if b = true then [v] else [])) → U D σ H') : tSeq (tIfS tt (tDrop (tBM K "list" rAppend ta (tCons te tNil))) tNext) U D σ H := by
  refine ht _ fun H2 s2 => ?_
  cases b with
  | true =>
    refine iteT (ha H2 _ ⟨.inl ⟨rfl, _, sqL_of (s2 _ _ hl)⟩, he _ _ ⟨l, _, _, rfl, rfl, s2 _ _ hl, Nat.lt_of_le_of_lt hz (by decide), k _ (fun c o hc e => ?_) upd_same⟩⟩)
    rw [upd_ne hc]
    exact s2 _ _ e
  | false =>
    refine iteF (k H2 (fun c o _ e => s2 _ _ e) ?_)
    show H2 l = some (.lst (zs ++ []))
    rw [List.append_nil]
    exact s2 _ _ hl
end
section
variable {σ : L2.St} {H : Hp} {te : TE} {U : TS} {D : Ends}
/-- x = e, then the rest -/
theorem q_asgX {i : Nat} (h : te σ H fun x H1 => U D (σ.set i (some x)) H1) : tSeq (tAsg te (gName i)) U D σ H := h
/-- x = e, e some int -/
theorem q_asgI {i : Nat} (h : ∀ R : VK, (∀ z : Int, R (.int z) H) → te σ H R) (k : ∀ z : Int, U D (σ.set i (some (.int z))) H) : tSeq (tAsg te (gName i)) U D σ H := h _ k
end
section
variable {K : PySem.W.Frag} {σ : L2.St} {H : Hp} {X : TE} {r : List V → Hp → VK → Prop} {g : TG} {tb U : TS} {D : Ends}
/-- a test by a call of one argument, a for over such a call: the argument first -/
theorem pl_b1 {R : Bool → Hp → Prop} (h : X σ H fun v H1 => r [v] H1 fun x H2 => ∃ c, x = .bl c ∧ R c H2) : tB (tCB r (tCons X tNil)) σ H R := h
theorem pl_r1 {r : List V → Hp → VK → Prop} (h : X σ H fun v H1 => r [v] H1 D.rt) : tRet (tCB r (tCons X tNil)) D σ H := h
theorem pl_forL1 (h : X σ H fun v H1 => r [v] H1 fun x H2 => ∃ a, x = .ref a ∧ (∃ xs, SqL K H2 a xs) ∧ tFor (fun _ H R => R (Itl K a) H) g tb { D with nx := U D } σ H2) : tSeq (tFor (iList K (tCB r (tCons X tNil))) g tb) U D σ H := h
end
/-! ### == of lists of flat values -/
def okV : V → Bool
  | .non => true
  | .bl _ => true
  | .int _ => true
  | .str x => PyData.canLay0 (.str x)
  | _ => false
def dtV : V → PyData
  | .bl b => .bool b
  | .int i => .int i
  | .str x => .str x
  | _ => .none
theorem dp_ok {K : PySem.W.Frag} {H : Hp} : ∀ {x : V}, okV x = true → Dp K H x (dtV x)
  | .non, _ => .non
  | .bl b, _ => .bl b
  | .int i, _ => .int i
  | .str x, _ => .str x
  | .byt _, h => by cases h
  | .flt _, h => by cases h
  | .ref _, h => by cases h
  | .ty _, h => by cases h
theorem dps_ok {K : PySem.W.Frag} {H : Hp} : ∀ {xs : List V}, xs.all okV = true → DpAll K H xs (xs.map dtV)
  | [], _ => .nil
  | x :: r, h => by
    rw [List.all_cons, Bool.and_eq_true] at h
    exact .cons (dp_ok h.1) (dps_ok h.2)
theorem lay_ok : ∀ {x : V}, okV x = true → PyData.canLay0 (dtV x) = true ∧ PyData.depth (dtV x) = 0
  | .non, _ => ⟨rfl, rfl⟩
  | .bl b, _ => ⟨rfl, rfl⟩
  | .int i, _ => ⟨rfl, rfl⟩
  | .str x, h => ⟨h, rfl⟩
  | .byt _, h => by cases h
  | .flt _, h => by cases h
  | .ref _, h => by cases h
  | .ty _, h => by cases h
theorem lays_ok : ∀ {xs : List V}, xs.all okV = true → PyData.canLayAll0 (xs.map dtV) = true ∧ PyData.depthAll (xs.map dtV) = 0
  | [], _ => ⟨rfl, rfl⟩
  | x :: r, h => by
    rw [List.all_cons, Bool.and_eq_true] at h
    obtain ⟨h1, h2⟩ := lay_ok h.1
    obtain ⟨h3, h4⟩ := lays_ok h.2
    constructor
    · show (PyData.canLay0 (dtV x) && PyData.canLayAll0 (r.map dtV)) = true
      rw [h1, h3]
      rfl
    · show max (PyData.depth (dtV x)) (PyData.depthAll (r.map dtV)) = 0
      rw [h2, h4]
      rfl
theorem shaped_ok {xs : List V} (h : xs.all okV = true) : SeqAt.shaped (.list (xs.map dtV)) = true := by
  obtain ⟨h1, h2⟩ := lays_ok h
  unfold SeqAt.shaped
  rw [Bool.and_eq_true]
  refine ⟨h1, decide_eq_true ?_⟩
  show PyData.depthAll (xs.map dtV) + 1 ≤ 64
  rw [h2]
  decide
theorem eqv_ok : ∀ {x : V}, okV x = true → PyData.eqv (dtV x) (dtV x) = true
  | .non, _ => rfl
  | .bl b, _ => by simp [dtV, PyData.eqv]
  | .int i, _ => by simp [dtV, PyData.eqv]
  | .str x, _ => by simp [dtV, PyData.eqv]
  | .byt _, h => by cases h
  | .flt _, h => by cases h
  | .ref _, h => by cases h
  | .ty _, h => by cases h
theorem eqvs_ok : ∀ {xs : List V}, xs.all okV = true → PyData.eqvAll (xs.map dtV) (xs.map dtV) = true
  | [], _ => rfl
  | x :: r, h => by
    rw [List.all_cons, Bool.and_eq_true] at h
    show (PyData.eqv (dtV x) (dtV x) && PyData.eqvAll (r.map dtV) (r.map dtV)) = true
    rw [eqv_ok h.1, eqvs_ok h.2]
    rfl
theorem ne_lists {K : PySem.W.Frag} {H : Hp} {p q : Addr} {xs : List V} {Q : VK} (hp : SqL K H p xs) (hq : SqL K H q xs) (hf : xs.all okV = true) (k : Q (.bl false) H) : rNeD K (.ref p) (.ref q) H Q := by
  refine ⟨.list (xs.map dtV), .list (xs.map dtV), .lst hp (dps_ok hf), .lst hq (dps_ok hf), shaped_ok hf, shaped_ok hf, ?_⟩
  have e : PyData.eqv (.list (xs.map dtV)) (.list (xs.map dtV)) = true := eqvs_ok hf
  rw [e]
  exact k
/-- a value of a built-in type that is no object -/
theorem ty_ok {K : PySem.W.Frag} {H : Hp} : ∀ {x : V}, okV x = true → ∃ t, TyX K H x (.type t)
  | .non, _ => ⟨_, .base .non⟩
  | .bl b, _ => ⟨_, .base (.bl b)⟩
  | .int i, _ => ⟨_, .base (.int i)⟩
  | .str x, _ => ⟨_, .base (.str x)⟩
  | .byt _, h => by cases h
  | .flt _, h => by cases h
  | .ref _, h => by cases h
  | .ty _, h => by cases h
theorem tys_ok {K : PySem.W.Frag} : ∀ {x : V}, okV x = true → ∃ t, ∀ H : Hp, TyX K H x (.type t)
  | .non, _ => ⟨_, fun _ => .base .non⟩
  | .bl b, _ => ⟨_, fun _ => .base (.bl b)⟩
  | .int i, _ => ⟨_, fun _ => .base (.int i)⟩
  | .str x, _ => ⟨_, fun _ => .base (.str x)⟩
  | .byt _, h => by cases h
  | .flt _, h => by cases h
  | .ref _, h => by cases h
  | .ty _, h => by cases h
section
variable {K : PySem.W.Frag} {σ : L2.St} {H : Hp} {tl te : TE} {j : Nat} {vs : List Nat} {Q : VK}
/-- [e for c in a text] -/
theorem tlc_S (v : Nat → V) (z : Str) (htl : ∀ R : VK, R (.str z) H → tl σ H R) (hz : z.cps.size ≤ 100000) (hw : ∀ x, wipe ((wipe σ vs).set j (some x)) vs = wipe σ vs)
    (he : ∀ c ∈ z.cps.toList, ∀ H', Same H H' → ∀ R : VK, (∀ H2, Same H' H2 → R (v c) H2) → te ((wipe σ vs).set j (some (.str ⟨#[c]⟩))) H' R)
    (k : ∀ D H', H D = none → Same H H' → H' D = some (.lst (z.cps.toList.map v)) → Q (.ref D) H') : tLc (iStr tl) (gName j) tYes te vs σ H Q := by
  refine htl _ ⟨z, rfl, fun D hD => ?_⟩
  refine lc_it walk_str (fun i H' => Same H H' ∧ H' D = some (.lst ((z.cps.toList.take i).map v))) ⟨same_new hD, upd_same⟩ (fun _ _ _ _ => trivial) ?_ fun H' p => k D H' hD p.1 ?_
  · rintro i x H' H2 hi p ⟨rfl, c, hc, rfl⟩
    have hc2 : z.cps.toList[i]? = some c := by rw [Array.getElem?_toList]; exact hc
    have hm : c ∈ z.cps.toList := List.mem_of_getElem? hc2
    refine ⟨hw _, he c hm _ p.1 _ fun H3 s3 => ⟨_, s3 _ _ p.2, ?_, same_mut (p.1.trans s3) hD, ?_⟩⟩
    · rw [List.length_map, List.length_take]
      have e : sizeLine = 16777216 := by decide
      omega
    · rw [upd_same, List.take_add_one, hc2, List.map_append]
      rfl
  · have q := p.2
    rw [List.take_of_length_le (by simp)] at q
    exact q
end
/-- None and the ints from 0 to g -/
def valsTo (g : Int) : List V := .non :: rgV 0 (g + 1)
/-- all that is no list is as it was -/
def KeepNL (H H' : Hp) : Prop := ∀ b o, (∀ zs, o ≠ HO.lst zs) → H b = some o → H' b = some o
theorem KeepNL.of {H H' : Hp} (s : Same H H') : KeepNL H H' := fun b o _ e => s b o e
theorem KeepNL.lst {H : Hp} {D : Addr} {zs ys : List V} (h : H D = some (.lst zs)) : KeepNL H (upd H D (.lst ys)) := fun b o n e => by
  rw [upd_ne (fun q => by rw [q, h] at e; exact n zs (Option.some.inj e).symm)]
  exact e
section
variable {K : PySem.W.Frag} {σ : L2.St} {H : Hp} {tl te : TE} {j : Nat} {vs : List Nat} {Q : VK} {xs : List V}
/-- [e for x in xs], e making new objects (no lists among what is told of them) -/
theorem tlc_G (Rl : Nat → V → Hp → Prop) (mono : ∀ i y H H', KeepNL H H' → Rl i y H → Rl i y H') (htl : ∀ R : VK, (∀ a H1, Same H H1 → SqL K H1 a xs → R (.ref a) H1) → tl σ H R) (hz : xs.length ≤ 100000) (hw : ∀ x, wipe ((wipe σ vs).set j (some x)) vs = wipe σ vs)
    (he : ∀ i x, xs[i]? = some x → ∀ H', Same H H' → ∀ R : VK, (∀ y H2, Same H' H2 → Rl i y H2 → R y H2) → te ((wipe σ vs).set j (some x)) H' R)
    (k : ∀ D ys H', H D = none → Same H H' → H' D = some (.lst ys) → ys.length = xs.length → (∀ i y, ys[i]? = some y → Rl i y H') → Q (.ref D) H') : tLc (iList K tl) (gName j) tYes te vs σ H Q := by
  refine htl _ fun a H1 e1 hs => ⟨a, rfl, ⟨xs, hs⟩, fun D hD => ?_⟩
  refine lc_list (xs := xs) (fun i H' => Same H1 H' ∧ ∃ ys, H' D = some (.lst ys) ∧ ys.length = i ∧ ∀ m y, ys[m]? = some y → Rl m y H') ⟨same_new hD, [], upd_same, rfl, fun m y h => by simp at h⟩ (fun i H' _ p => p.1.seq hs) ?_ ?_
  · rintro i x H' hx ⟨s', ys, hys, hl, hr⟩
    have hi : i < xs.length := (List.getElem?_eq_some_iff.mp hx).1
    refine ⟨hw x, he i x hx H' (e1.trans s') _ fun y H2 s2 hy => ⟨ys, s2 _ _ hys, ?_, same_mut (s'.trans s2) hD, ys ++ [y], upd_same, by rw [List.length_append, hl]; rfl, fun m z hm => ?_⟩⟩
    · have e : sizeLine = 16777216 := by decide
      omega
    · have kp : KeepNL H2 (upd H2 D (.lst (ys ++ [y]))) := KeepNL.lst (s2 _ _ hys)
      by_cases hm2 : m < ys.length
      · rw [List.getElem?_append_left hm2] at hm
        exact mono m z _ _ kp (mono m z _ _ (KeepNL.of s2) (hr m z hm))
      · have hm3 : m = ys.length := by
          have h := (List.getElem?_eq_some_iff.mp hm).1
          rw [List.length_append] at h
          have : [y].length = 1 := rfl
          omega
        subst hm3
        rw [List.getElem?_append_right (Nat.le_refl _), Nat.sub_self] at hm
        obtain rfl : y = z := Option.some.inj hm
        rw [hl]
        exact mono i y _ _ kp hy
  · rintro H' ⟨s', ys, hys, hl, hr⟩
    exact k D ys H' (e1.free hD) (e1.trans s') hys hl hr
end
end Evl2
/-! ### own methods called by the language: len(x), v in x, x == y, of instances with a __dict__ -/
namespace Evl2
open PySem PySem.Spec PyProof.Rows L2
section
variable {X : Cx} {CX : CXT} {k : Nat} {f C : Addr} {fd : FuncData} {ps : List Str} {sp : Sp} {E : XK}
/-- an own function called at a place below the running body -/
theorem runA {A : Around} {pins : List (Addr × Obj)} {σ : L2.St} {H : Hp} {s : Shared} {Q : VK} {us : List Value} {vs : List V} (F : FnOk X.prog X.w X.K X.mg X.base CX k f fd ps sp) (hr : Room k A) (e0 : Env0 X.prog X.w X.K X.mg X.base A X.stack s H) (hb : Binds X.K fd ps []) (hx : Passes CX X E)
    (I : Inv X pins σ H s) (r : Vals vs us) (h : sp vs H Q E) : wpAny (model X.prog X.w) A (call (.ref f) us) (EP X pins σ Q) X.xe s := by
  have hl : us.length = ps.length := by rw [← r.length]; exact F.len _ _ _ _ h
  refine wpAny_call (codeAny_mono (F.run A X.stack s H ⟨us, []⟩ us vs Q E hr e0 (by
    have := hb s us I.kIn (by simpa using hl)
    simpa using this) r h) fun r s' hq => ?_)
  cases r with
  | error e => exact hx pins σ H s e s' I hq
  | ok fl =>
    cases fl with
    | ret u => exact I.after hq
    | next => exact False.elim hq
    | brk => exact False.elim hq
    | cont => exact False.elim hq
def rLenOwn (C : Addr) (sp : Sp) (E : XK) : List V → Hp → VK → Prop := fun xs H Q => ∃ a dx fs, xs = [V.ref a] ∧ H a = some (.ins C dx fs) ∧ sp [.ref a] H (fun z H' => ∃ i : Int, z = .int i ∧ (0 ≤ i ∧ i < 2 ^ 63) ∧ Q (.int i) H') E
/-- len(x), x with an own __len__ -/
theorem call_lenOwn (F : FnOk X.prog X.w X.K X.mg X.base CX k f fd ps sp) (hm : Meth X.K C "__len__" f) (hr : Room (k + 1) X.A) (hb : Binds X.K fd ps []) (hx : Passes CX X E) : CallR X (.builtin "len") (rLenOwn C sp E) := by
  intro pins s σ H xs us Q I r h
  obtain ⟨a, dx, fs, rfl, ha, q⟩ := h
  obtain ⟨u, rfl, ru⟩ := r.one
  cases (show u = Value.ref a from ru)
  obtain ⟨mA, J, _⟩ := ins_get I.hok ha
  obtain ⟨od, J, _⟩ := J.look
  obtain ⟨m, hF⟩ := I.fr
  refine PySem.W.len_K hF I.ok.mod.kin J hm.at_ hm.fn ?_
  refine wpAny_mono (runA (us := [.ref a]) (vs := [.ref a]) F hr.in1 I.env0.in1 hb hx I (.cons rfl .nil) q) (fun v s' z => ?_) fun _ _ e => e
  obtain ⟨z', H', I', rz, i, ei, hi, qz⟩ := z
  subst ei
  obtain ⟨t, e⟩ := (show ∃ t, v = Value.int i t from rz)
  cases e
  exact ⟨hi, .int i, H', I'.tok _, ⟨_, rfl⟩, qz⟩
def rInOwn (C : Addr) (sp : Sp) (E : XK) : R2 := fun x y H Q => ∃ a dx fs, y = .ref a ∧ H a = some (.ins C dx fs) ∧ sp [y, x] H (fun z H' => ∃ b, z = .bl b ∧ Q (.bl b) H') E
/-- v in x, x with an own __contains__ that answers a Bool -/
theorem op_inOwn (F : FnOk X.prog X.w X.K X.mg X.base CX k f fd ps sp) (hm : Meth X.K C "__contains__" f) (hr : Room k X.A) (hb : Binds X.K fd ps []) (hx : Passes CX X E) : OpR X (compareOp .In) (rInOwn C sp E) := by
  intro pins s σ H x y v u Q I rx ry h
  obtain ⟨a, dx, fs, rfl, ha, q⟩ := h
  cases (show u = Value.ref a from ry)
  obtain ⟨mA, J, _⟩ := ins_get I.hok ha
  obtain ⟨od, J, _⟩ := J.look
  obtain ⟨m, hF⟩ := I.fr
  refine PySem.W.in_K hF I.ok.mod.kin J hm.at_ hm.fn ?_
  refine wpAny_mono (runA (us := [.ref a, v]) (vs := [.ref a, x]) F hr I.env0 hb hx I (.cons rfl (.cons rx .nil)) q) (fun r s' z => ?_) fun _ _ e => e
  obtain ⟨z', H', I', rz, b, eb, qz⟩ := z
  subst eb
  cases (show r = Value.bool b from rz)
  exact wpAny_truthy_bool ⟨.bl b, H', I', rfl, qz⟩
def rEqOwn (C : Addr) (sp : Sp) (E : XK) : R2 := fun x y H Q => ∃ a dx fs b dy gs, x = .ref a ∧ y = .ref b ∧ H a = some (.ins C dx fs) ∧ H b = some (.ins C dy gs) ∧ sp [x, y] H (fun z H' => ∃ c, z = .bl c ∧ Q (.bl c) H') E
/-- x == y, both of a class with an own __eq__ that answers a Bool -/
theorem op_eqOwn (F : FnOk X.prog X.w X.K X.mg X.base CX k f fd ps sp) (hm : Meth X.K C "__eq__" f) (hr : Room k X.A) (hb : Binds X.K fd ps []) (hx : Passes CX X E) : OpR X (compareOp .Eq) (rEqOwn C sp E) := by
  intro pins s σ H x y v u Q I rx ry h
  obtain ⟨a, dx, fs, b, dy, gs, rfl, rfl, ha, hb', q⟩ := h
  cases (show v = Value.ref a from rx)
  cases (show u = Value.ref b from ry)
  obtain ⟨mA, J, _⟩ := ins_get I.hok ha
  obtain ⟨od, J, _⟩ := J.look
  obtain ⟨mB, J', _⟩ := ins_get I.hok hb'
  obtain ⟨od', J', _⟩ := J'.look
  obtain ⟨m, hF⟩ := I.fr
  show wpAny (model X.prog X.w) X.A (richCompare .Eq (.ref a) (.ref b)) (EP X pins σ Q) X.xe s
  refine PySem.W.cmp_K (op := .Eq) (tb := .ref C) hr.units0 hF I.ok.mod.kin J J'.type (by simp [PySem.W.notFirst]) hm.at_ hm.fn ?_
  refine wpAny_mono (runA (us := [.ref a, .ref b]) (vs := [.ref a, .ref b]) F hr I.env0 hb hx I (.cons rfl (.cons rfl .nil)) q) (fun r s' z => ?_) fun _ _ e => e
  obtain ⟨z', H', I', rz, c, ec, qz⟩ := z
  subst ec
  cases (show r = Value.bool c from rz)
  exact ⟨.bl c, H', I', rfl, qz⟩
end
end Evl2
/-! ### comprehensions over enumerate -/
namespace Evl2
open PySem PySem.Spec PyProof.Rows L2
section
variable {K : PySem.W.Frag} {σ : L2.St} {H : Hp} {ta : TA} {te : TE} {j1 j2 : Nat} {vs : List Nat} {Q : VK} {xs : List V}
/-- [e for i, x in enumerate(xs)], e making new objects (no lists among what is told of them) -/
theorem tlc_GE (Rl : Nat → V → Hp → Prop) (mono : ∀ i y H H', KeepNL H H' → Rl i y H → Rl i y H') (hta : ∀ R : List V → Hp → Prop, (∀ a H1, Same H H1 → SqL K H1 a xs → R [.ref a] H1) → ta σ H R) (hz : xs.length ≤ 100000) (hw : ∀ x y, wipe (((wipe σ vs).set j1 (some x)).set j2 (some y)) vs = wipe σ vs)
    (he : ∀ i x, xs[i]? = some x → ∀ H', Same H H' → ∀ R : VK, (∀ y H2, Same H' H2 → Rl i y H2 → R y H2) → te (((wipe σ vs).set j1 (some (.int (i : Nat)))).set j2 (some x)) H' R)
    (k : ∀ D ys H', H D = none → Same H H' → H' D = some (.lst ys) → ys.length = xs.length → (∀ i y, ys[i]? = some y → Rl i y H') → Q (.ref D) H') : tLc (iEnum K ta) (gTup K 2 (gCons (gName j1) (gCons (gName j2) gNil))) tYes te vs σ H Q := by
  refine hta _ fun a H1 e1 hs => ⟨a, xs, rfl, hs, fun D hD => ?_⟩
  refine lc_it walk_enum (fun i H' => Same H1 H' ∧ ∃ ys, H' D = some (.lst ys) ∧ ys.length = i ∧ ∀ m y, ys[m]? = some y → Rl m y H') ⟨same_new hD, [], upd_same, rfl, fun m y h => by simp at h⟩ (fun i H' _ p => p.1.seq hs) ?_ ?_
  · rintro i v H2 H3 hi ⟨s', ys, hys, hl, hr⟩ ⟨T, x', y', rfl, nT, rfl, ex, ey⟩
    obtain rfl := Option.some.inj ex
    have ey : xs[i]? = some y' := ey
    have st : Same H2 (upd H2 T (.tup [.int (i : Nat), y'])) := same_new nT
    refine ⟨T, _, rfl, sqT_of upd_same, rfl, _, _, rfl, _, _, rfl, rfl, hw _ _, he i y' ey _ (e1.trans (s'.trans st)) _ fun y H4 s2 hy => ⟨ys, s2 _ _ (st _ _ hys), ?_, same_mut (s'.trans (st.trans s2)) hD, ys ++ [y], upd_same, by rw [List.length_append, hl]; rfl, fun m z hm => ?_⟩⟩
    · have e : sizeLine = 16777216 := by decide
      omega
    · have kp : KeepNL H4 (upd H4 D (.lst (ys ++ [y]))) := KeepNL.lst (s2 _ _ (st _ _ hys))
      by_cases hm2 : m < ys.length
      · rw [List.getElem?_append_left hm2] at hm
        exact mono m z _ _ kp (mono m z _ _ (KeepNL.of (st.trans s2)) (hr m z hm))
      · have hm3 : m = ys.length := by
          have h := (List.getElem?_eq_some_iff.mp hm).1
          rw [List.length_append] at h
          have : [y].length = 1 := rfl
          omega
        subst hm3
        rw [List.getElem?_append_right (Nat.le_refl _), Nat.sub_self] at hm
        obtain rfl : y = z := Option.some.inj hm
        rw [hl]
        exact mono i y _ _ kp hy
  · rintro H' ⟨s', ys, hys, hl, hr⟩
    exact k D ys H' (e1.free hD) (e1.trans s') hys hl hr
end
end Evl2

namespace ER
open PySem PySem.Spec PyProof.Rows L2 Evl2
def top (i : Nat) : Stmt := PySem.Challenge.pw_editionrows_k03_whole_words.main.body.getD i (.Pass ⟨0, 0, 0, 0⟩)
abbrev s__wall : Stmt := top 0
theorem sc__wall : FnScope ["k"] ["k"] (defScope s__wall) := ⟨rfl, rfl, rfl, by decide +kernel, rfl, by decide +kernel, by decide +kernel⟩
def d__wall : He.DefD := ⟨("_wall", none), "_wall", "_wall", defArgs s__wall, defBody s__wall, defScope s__wall, [], []⟩
abbrev s_BadPart___init__ : Stmt := inClass (top 3) 0
theorem sc_BadPart___init__ : FnScope ["self", "part"] ["self", "part"] (defScope s_BadPart___init__) := ⟨rfl, rfl, rfl, by decide +kernel, rfl, by decide +kernel, by decide +kernel⟩
def d_BadPart___init__ : He.DefD := ⟨("BadPart", some "__init__"), "__init__", "BadPart.__init__", defArgs s_BadPart___init__, defBody s_BadPart___init__, defScope s_BadPart___init__, [], []⟩
abbrev s_BadChange___init__ : Stmt := inClass (top 4) 0
theorem sc_BadChange___init__ : FnScope ["self", "index"] ["self", "index"] (defScope s_BadChange___init__) := ⟨rfl, rfl, rfl, by decide +kernel, rfl, by decide +kernel, by decide +kernel⟩
def d_BadChange___init__ : He.DefD := ⟨("BadChange", some "__init__"), "__init__", "BadChange.__init__", defArgs s_BadChange___init__, defBody s_BadChange___init__, defScope s_BadChange___init__, [], []⟩
abbrev s_CannotBe___init__ : Stmt := inClass (top 5) 0
theorem sc_CannotBe___init__ : FnScope ["self", "word"] ["self", "word"] (defScope s_CannotBe___init__) := ⟨rfl, rfl, rfl, by decide +kernel, rfl, by decide +kernel, by decide +kernel⟩
def d_CannotBe___init__ : He.DefD := ⟨("CannotBe", some "__init__"), "__init__", "CannotBe.__init__", defArgs s_CannotBe___init__, defBody s_CannotBe___init__, defScope s_CannotBe___init__, [], []⟩
abbrev s_is_whole : Stmt := top 11
theorem sc_is_whole : FnScope ["value"] ["value"] (defScope s_is_whole) := ⟨rfl, rfl, rfl, by decide +kernel, rfl, by decide +kernel, by decide +kernel⟩
def d_is_whole : He.DefD := ⟨("is_whole", none), "is_whole", "is_whole", defArgs s_is_whole, defBody s_is_whole, defScope s_is_whole, [], []⟩
abbrev s_is_word : Stmt := top 12
theorem sc_is_word : FnScope ["value", "words"] ["value", "words"] (defScope s_is_word) := ⟨rfl, rfl, rfl, by decide +kernel, rfl, by decide +kernel, by decide +kernel⟩
def d_is_word : He.DefD := ⟨("is_word", none), "is_word", "is_word", defArgs s_is_word, defBody s_is_word, defScope s_is_word, [], []⟩
abbrev s_is_name : Stmt := top 13
theorem sc_is_name : FnScope ["value", "letter"] ["value"] (defScope s_is_name) := ⟨rfl, rfl, rfl, by decide +kernel, rfl, by decide +kernel, by decide +kernel⟩
def d_is_name : He.DefD := ⟨("is_name", none), "is_name", "is_name", defArgs s_is_name, defBody s_is_name, defScope s_is_name, [], []⟩
abbrev s_is_greatest : Stmt := top 14
theorem sc_is_greatest : FnScope ["value"] ["value"] (defScope s_is_greatest) := ⟨rfl, rfl, rfl, by decide +kernel, rfl, by decide +kernel, by decide +kernel⟩
def d_is_greatest : He.DefD := ⟨("is_greatest", none), "is_greatest", "is_greatest", defArgs s_is_greatest, defBody s_is_greatest, defScope s_is_greatest, [], []⟩
abbrev s_is_value : Stmt := top 15
theorem sc_is_value : FnScope ["value"] ["value"] (defScope s_is_value) := ⟨rfl, rfl, rfl, by decide +kernel, rfl, by decide +kernel, by decide +kernel⟩
def d_is_value : He.DefD := ⟨("is_value", none), "is_value", "is_value", defArgs s_is_value, defBody s_is_value, defScope s_is_value, [], []⟩
abbrev s_is_within : Stmt := top 16
theorem sc_is_within : FnScope ["value", "greatest"] ["value", "greatest"] (defScope s_is_within) := ⟨rfl, rfl, rfl, by decide +kernel, rfl, by decide +kernel, by decide +kernel⟩
def d_is_within : He.DefD := ⟨("is_within", none), "is_within", "is_within", defArgs s_is_within, defBody s_is_within, defScope s_is_within, [], []⟩
abbrev s_Column___init__ : Stmt := inClass (top 19) 0
theorem sc_Column___init__ : FnScope ["self", "name", "greatest", "default", "number"] ["self", "name", "greatest", "default", "number"] (defScope s_Column___init__) := ⟨rfl, rfl, rfl, by decide +kernel, rfl, by decide +kernel, by decide +kernel⟩
def d_Column___init__ : He.DefD := ⟨("Column", some "__init__"), "__init__", "Column.__init__", defArgs s_Column___init__, defBody s_Column___init__, defScope s_Column___init__, [.non], [("number", (.int 0))]⟩
abbrev s_Column___eq__ : Stmt := inClass (top 19) 1
theorem sc_Column___eq__ : FnScope ["self", "other"] ["self", "other"] (defScope s_Column___eq__) := ⟨rfl, rfl, rfl, by decide +kernel, rfl, by decide +kernel, by decide +kernel⟩
def d_Column___eq__ : He.DefD := ⟨("Column", some "__eq__"), "__eq__", "Column.__eq__", defArgs s_Column___eq__, defBody s_Column___eq__, defScope s_Column___eq__, [], []⟩
abbrev s_Column___contains__ : Stmt := inClass (top 19) 2
theorem sc_Column___contains__ : FnScope ["self", "x"] ["self", "x"] (defScope s_Column___contains__) := ⟨rfl, rfl, rfl, by decide +kernel, rfl, by decide +kernel, by decide +kernel⟩
def d_Column___contains__ : He.DefD := ⟨("Column", some "__contains__"), "__contains__", "Column.__contains__", defArgs s_Column___contains__, defBody s_Column___contains__, defScope s_Column___contains__, [], []⟩
abbrev s_Column_all_values : Stmt := inClass (top 19) 3
theorem sc_Column_all_values : FnScope ["self"] ["self"] (defScope s_Column_all_values) := ⟨rfl, rfl, rfl, by decide +kernel, rfl, by decide +kernel, by decide +kernel⟩
def d_Column_all_values : He.DefD := ⟨("Column", some "all_values"), "all_values", "Column.all_values", defArgs s_Column_all_values, defBody s_Column_all_values, defScope s_Column_all_values, [], []⟩
abbrev s_Column_changed : Stmt := inClass (top 19) 4
theorem sc_Column_changed : FnScope ["self", "part", "value", "parts"] ["self", "part", "value"] (defScope s_Column_changed) := ⟨rfl, rfl, rfl, by decide +kernel, rfl, by decide +kernel, by decide +kernel⟩
def d_Column_changed : He.DefD := ⟨("Column", some "changed"), "changed", "Column.changed", defArgs s_Column_changed, defBody s_Column_changed, defScope s_Column_changed, [], []⟩
abbrev s_column_named : Stmt := top 20
theorem sc_column_named : FnScope ["columns", "name", "column"] ["columns", "name"] (defScope s_column_named) := ⟨rfl, rfl, rfl, by decide +kernel, rfl, by decide +kernel, by decide +kernel⟩
def d_column_named : He.DefD := ⟨("column_named", none), "column_named", "column_named", defArgs s_column_named, defBody s_column_named, defScope s_column_named, [], []⟩
abbrev s_is_change : Stmt := top 24
theorem sc_is_change : FnScope ["value"] ["value"] (defScope s_is_change) := ⟨rfl, rfl, rfl, by decide +kernel, rfl, by decide +kernel, by decide +kernel⟩
def d_is_change : He.DefD := ⟨("is_change", none), "is_change", "is_change", defArgs s_is_change, defBody s_is_change, defScope s_is_change, [], []⟩
abbrev s_has_parts : Stmt := top 25
theorem sc_has_parts : FnScope ["kind", "parts"] ["kind", "parts"] (defScope s_has_parts) := ⟨rfl, rfl, rfl, by decide +kernel, rfl, by decide +kernel, by decide +kernel⟩
def d_has_parts : He.DefD := ⟨("has_parts", none), "has_parts", "has_parts", defArgs s_has_parts, defBody s_has_parts, defScope s_has_parts, [], []⟩
abbrev s_is_single_part : Stmt := top 26
theorem sc_is_single_part : FnScope ["kind", "part"] ["kind", "part"] (defScope s_is_single_part) := ⟨rfl, rfl, rfl, by decide +kernel, rfl, by decide +kernel, by decide +kernel⟩
def d_is_single_part : He.DefD := ⟨("is_single_part", none), "is_single_part", "is_single_part", defArgs s_is_single_part, defBody s_is_single_part, defScope s_is_single_part, [], []⟩
abbrev s_is_way : Stmt := top 27
theorem sc_is_way : FnScope ["value"] ["value"] (defScope s_is_way) := ⟨rfl, rfl, rfl, by decide +kernel, rfl, by decide +kernel, by decide +kernel⟩
def d_is_way : He.DefD := ⟨("is_way", none), "is_way", "is_way", defArgs s_is_way, defBody s_is_way, defScope s_is_way, [], []⟩
abbrev s_kind_of : Stmt := top 28
theorem sc_kind_of : FnScope ["change"] ["change"] (defScope s_kind_of) := ⟨rfl, rfl, rfl, by decide +kernel, rfl, by decide +kernel, by decide +kernel⟩
def d_kind_of : He.DefD := ⟨("kind_of", none), "kind_of", "kind_of", defArgs s_kind_of, defBody s_kind_of, defScope s_kind_of, [], []⟩
abbrev s_why_not : Stmt := top 29
theorem sc_why_not : FnScope ["columns", "change"] ["columns", "change"] (defScope s_why_not) := ⟨rfl, rfl, rfl, by decide +kernel, rfl, by decide +kernel, by decide +kernel⟩
def d_why_not : He.DefD := ⟨("why_not", none), "why_not", "why_not", defArgs s_why_not, defBody s_why_not, defScope s_why_not, [], []⟩
abbrev s_hindrance : Stmt := top 30
theorem sc_hindrance : FnScope ["columns", "change", "kind", "column"] ["columns", "change"] (defScope s_hindrance) := ⟨rfl, rfl, rfl, by decide +kernel, rfl, by decide +kernel, by decide +kernel⟩
def d_hindrance : He.DefD := ⟨("hindrance", none), "hindrance", "hindrance", defArgs s_hindrance, defBody s_hindrance, defScope s_hindrance, [], []⟩
abbrev s_add_hindrance : Stmt := top 31
theorem sc_add_hindrance : FnScope ["columns", "namesake", "change"] ["columns", "namesake", "change"] (defScope s_add_hindrance) := ⟨rfl, rfl, rfl, by decide +kernel, rfl, by decide +kernel, by decide +kernel⟩
def d_add_hindrance : He.DefD := ⟨("add_hindrance", none), "add_hindrance", "add_hindrance", defArgs s_add_hindrance, defBody s_add_hindrance, defScope s_add_hindrance, [], []⟩
abbrev s_changed_columns : Stmt := top 32
theorem sc_changed_columns : FnScope ["columns", "change", "number", "word"] ["columns", "change", "number"] (defScope s_changed_columns) := ⟨rfl, rfl, rfl, by decide +kernel, rfl, by decide +kernel, by decide +kernel⟩
def d_changed_columns : He.DefD := ⟨("changed_columns", none), "changed_columns", "changed_columns", defArgs s_changed_columns, defBody s_changed_columns, defScope s_changed_columns, [], []⟩
abbrev s_columns_behind : Stmt := top 33
theorem sc_columns_behind : FnScope ["columns", "change", "number", "kind", "name", "column"] ["columns", "change", "number"] (defScope s_columns_behind) := ⟨rfl, rfl, rfl, by decide +kernel, rfl, by decide +kernel, by decide +kernel⟩
def d_columns_behind : He.DefD := ⟨("columns_behind", none), "columns_behind", "columns_behind", defArgs s_columns_behind, defBody s_columns_behind, defScope s_columns_behind, [], []⟩
abbrev s_changed_column : Stmt := top 34
theorem sc_changed_column : FnScope ["column", "change", "kind", "default"] ["column", "change"] (defScope s_changed_column) := ⟨rfl, rfl, rfl, by decide +kernel, rfl, by decide +kernel, by decide +kernel⟩
def d_changed_column : He.DefD := ⟨("changed_column", none), "changed_column", "changed_column", defArgs s_changed_column, defBody s_changed_column, defScope s_changed_column, [], []⟩
abbrev s_changed_value : Stmt := top 35
theorem sc_changed_value : FnScope ["column", "change", "value"] ["column", "change", "value"] (defScope s_changed_value) := ⟨rfl, rfl, rfl, by decide +kernel, rfl, by decide +kernel, by decide +kernel⟩
def d_changed_value : He.DefD := ⟨("changed_value", none), "changed_value", "changed_value", defArgs s_changed_value, defBody s_changed_value, defScope s_changed_value, [], []⟩
abbrev s_value_above : Stmt := top 36
theorem sc_value_above : FnScope ["change"] ["change"] (defScope s_value_above) := ⟨rfl, rfl, rfl, by decide +kernel, rfl, by decide +kernel, by decide +kernel⟩
def d_value_above : He.DefD := ⟨("value_above", none), "value_above", "value_above", defArgs s_value_above, defBody s_value_above, defScope s_value_above, [], []⟩
abbrev s__law_pool : Stmt := top 38
theorem sc__law_pool : FnScope ["_law_script", "_law_k", "_law_size", "_law_mixed"] ["_law_script", "_law_k"] (defScope s__law_pool) := ⟨rfl, rfl, rfl, by decide +kernel, rfl, by decide +kernel, by decide +kernel⟩
def d__law_pool : He.DefD := ⟨("_law_pool", none), "_law_pool", "_law_pool", defArgs s__law_pool, defBody s__law_pool, defScope s__law_pool, [], []⟩
abbrev s__law_draw : Stmt := top 39
theorem sc__law_draw : FnScope ["_law_pool_here", "_law_many", "_law_found"] ["_law_pool_here", "_law_many"] (defScope s__law_draw) := ⟨rfl, rfl, rfl, by decide +kernel, rfl, by decide +kernel, by decide +kernel⟩
def d__law_draw : He.DefD := ⟨("_law_draw", none), "_law_draw", "_law_draw", defArgs s__law_draw, defBody s__law_draw, defScope s__law_draw, [], []⟩
abbrev s__law_pick : Stmt := top 40
theorem sc__law_pick : FnScope ["_law_pool_here", "_law_row"] ["_law_pool_here", "_law_row"] (defScope s__law_pick) := ⟨rfl, rfl, rfl, by decide +kernel, rfl, by decide +kernel, by decide +kernel⟩
def d__law_pick : He.DefD := ⟨("_law_pick", none), "_law_pick", "_law_pick", defArgs s__law_pick, defBody s__law_pick, defScope s__law_pick, [], []⟩
abbrev s__law_value : Stmt := top 41
theorem sc__law_value : FnScope ["_law_pool_here", "_law_most"] ["_law_pool_here", "_law_most"] (defScope s__law_value) := ⟨rfl, rfl, rfl, by decide +kernel, rfl, by decide +kernel, by decide +kernel⟩
def d__law_value : He.DefD := ⟨("_law_value", none), "_law_value", "_law_value", defArgs s__law_value, defBody s__law_value, defScope s__law_value, [], []⟩
abbrev s__law_word : Stmt := top 42
theorem sc__law_word : FnScope ["_law_cols_here", "_law_change_here", "_law_col", "_law_names"] ["_law_cols_here", "_law_change_here"] (defScope s__law_word) := ⟨rfl, rfl, rfl, by decide +kernel, rfl, by decide +kernel, by decide +kernel⟩
def d__law_word : He.DefD := ⟨("_law_word", none), "_law_word", "_law_word", defArgs s__law_word, defBody s__law_word, defScope s__law_word, [], []⟩
abbrev s__law_cut : Stmt := top 43
theorem sc__law_cut : FnScope ["_law_value_here", "_law_change_here"] ["_law_value_here", "_law_change_here"] (defScope s__law_cut) := ⟨rfl, rfl, rfl, by decide +kernel, rfl, by decide +kernel, by decide +kernel⟩
def d__law_cut : He.DefD := ⟨("_law_cut", none), "_law_cut", "_law_cut", defArgs s__law_cut, defBody s__law_cut, defScope s__law_cut, [], []⟩
abbrev s__law_col_then : Stmt := top 44
theorem sc__law_col_then : FnScope ["_law_col", "_law_change_here", "_law_name", "_law_most", "_law_given", "_law_seat"] ["_law_col", "_law_change_here"] (defScope s__law_col_then) := ⟨rfl, rfl, rfl, by decide +kernel, rfl, by decide +kernel, by decide +kernel⟩
def d__law_col_then : He.DefD := ⟨("_law_col_then", none), "_law_col_then", "_law_col_then", defArgs s__law_col_then, defBody s__law_col_then, defScope s__law_col_then, [], []⟩
abbrev s__law_then : Stmt := top 45
theorem sc__law_then : FnScope ["_law_cols_here", "_law_change_here", "_law_seat", "_law_col"] ["_law_cols_here", "_law_change_here", "_law_seat"] (defScope s__law_then) := ⟨rfl, rfl, rfl, by decide +kernel, rfl, by decide +kernel, by decide +kernel⟩
def d__law_then : He.DefD := ⟨("_law_then", none), "_law_then", "_law_then", defArgs s__law_then, defBody s__law_then, defScope s__law_then, [], []⟩
abbrev s__law_change : Stmt := top 46
theorem sc__law_change : FnScope ["_law_pool_here", "_law_most", "_law_kind", "_law_name"] ["_law_pool_here", "_law_most"] (defScope s__law_change) := ⟨rfl, rfl, rfl, by decide +kernel, rfl, by decide +kernel, by decide +kernel⟩
def d__law_change : He.DefD := ⟨("_law_change", none), "_law_change", "_law_change", defArgs s__law_change, defBody s__law_change, defScope s__law_change, [], []⟩
abbrev s__law_cols : Stmt := top 47
theorem sc__law_cols : FnScope ["_law_cols_here", "_law_col"] ["_law_cols_here"] (defScope s__law_cols) := ⟨rfl, rfl, rfl, by decide +kernel, rfl, by decide +kernel, by decide +kernel⟩
def d__law_cols : He.DefD := ⟨("_law_cols", none), "_law_cols", "_law_cols", defArgs s__law_cols, defBody s__law_cols, defScope s__law_cols, [], []⟩
abbrev s__law_told : Stmt := top 48
theorem sc__law_told : FnScope ["_law_cols_here", "_law_change_here", "_law_seat", "e"] ["_law_cols_here", "_law_change_here", "_law_seat"] (defScope s__law_told) := ⟨rfl, rfl, rfl, by decide +kernel, rfl, by decide +kernel, by decide +kernel⟩
def d__law_told : He.DefD := ⟨("_law_told", none), "_law_told", "_law_told", defArgs s__law_told, defBody s__law_told, defScope s__law_told, [], []⟩
abbrev s__law_draw_cols : Stmt := top 49
theorem sc__law_draw_cols : FnScope ["_law_pool_here", "_law_found", "_law_name", "_law_top"] ["_law_pool_here"] (defScope s__law_draw_cols) := ⟨rfl, rfl, rfl, by decide +kernel, rfl, by decide +kernel, by decide +kernel⟩
def d__law_draw_cols : He.DefD := ⟨("_law_draw_cols", none), "_law_draw_cols", "_law_draw_cols", defArgs s__law_draw_cols, defBody s__law_draw_cols, defScope s__law_draw_cols, [], []⟩
abbrev s_law : Stmt := top 50
theorem sc_law : FnScope ["_law_script", "_law_k", "_law_pool_here", "_law_cols_here", "_law_turn", "_law_change_here", "_law_due", "_law_made", "_law_later"] ["_law_script"] (defScope s_law) := ⟨rfl, rfl, rfl, by decide +kernel, rfl, by decide +kernel, by decide +kernel⟩
def d_law : He.DefD := ⟨("law", none), "law", "law", defArgs s_law, defBody s_law, defScope s_law, [], []⟩
def fn0 : List He.DefD := [d_BadPart___init__, d_BadChange___init__, d_CannotBe___init__, d_is_whole, d_is_word, d_is_name, d_is_greatest, d_is_value, d_is_within, d_Column___init__, d_Column___eq__, d_Column___contains__, d_Column_changed, d_column_named, d_is_change, d_has_parts, d_is_single_part, d_is_way, d_kind_of, d_why_not, d_hindrance, d_add_hindrance, d_changed_columns, d_columns_behind, d_changed_column, d_changed_value, d_value_above, d__law_pool, d__law_draw, d__law_pick, d__law_value, d__law_word, d__law_cut, d__law_col_then, d__law_then, d__law_change, d__law_cols, d__law_told, d__law_draw_cols, d_law]
def fa0 : List He.Fa := [.glo "is_whole", .glo "is_word", .glo "is_name", .glo "is_greatest", .glo "is_value", .glo "is_within", .glo "column_named", .glo "is_change", .glo "has_parts", .glo "is_single_part", .glo "is_way", .glo "kind_of", .glo "why_not", .glo "hindrance", .glo "add_hindrance", .glo "changed_columns", .glo "columns_behind", .glo "changed_column", .glo "changed_value", .glo "value_above", .glo "_law_pool", .glo "_law_draw", .glo "_law_pick", .glo "_law_value", .glo "_law_word", .glo "_law_cut", .glo "_law_col_then", .glo "_law_then", .glo "_law_change", .glo "_law_cols", .glo "_law_told", .glo "_law_draw_cols", .glo "law", .glo "CannotBe", .glo "Column", .cls "Column", .mkr "Column", .noat "Column" "name", .noat "Column" "greatest", .noat "Column" "default", .noat "Column" "number", .meth "Column" "__eq__", .meth "Column" "changed", .str "MISSING" "missing", .str "LETTERS" "abcdefghijklmnopqrstuvwxyz", .int "LONGEST_NAME" 8, .int "MOST_GREATEST" 99, .glo "PARTS", .glo "WAYS", .int "MOST_COLUMNS" 6, .free "isinstance", .free "int", .free "bool", .free "str", .free "all", .free "len", .free "tuple", .free "list", .free "max", .free "range", .free "min"]
def fnl : List He.DefD := fn0
def fal : List He.Fa := fa0
def exl (K : PySem.W.Frag) : Bool := [He.tupB K "PARTS" [(.str "name"), (.str "greatest"), (.str "default"), (.str "number")], He.tupB K "WAYS" [(.str "cut"), (.str "none"), (.str "refuse")], oexB K "BadPart" "part", oexB K "BadChange" "index", oexB K "CannotBe" "word", insB K "Column"].all id
structure Tx (K : PySem.W.Frag) (mg : Str → Option Value) : Prop where
  c : He.SaysD fal fnl K
  e : exl K = true
  h : ∃ h : Heap, K.In h ∧ h.Ns mainGlobals mg
section
variable {K : PySem.W.Frag} {mg : Str → Option Value}
theorem mg_is_whole (T : Tx K mg) : mg "is_whole" = some (.ref (He.ga K "is_whole")) := by
  obtain ⟨h, X, G⟩ := T.h
  exact He.glo_ok X G (T.c.fact 0 rfl)
theorem mg_is_word (T : Tx K mg) : mg "is_word" = some (.ref (He.ga K "is_word")) := by
  obtain ⟨h, X, G⟩ := T.h
  exact He.glo_ok X G (T.c.fact 1 rfl)
theorem mg_is_name (T : Tx K mg) : mg "is_name" = some (.ref (He.ga K "is_name")) := by
  obtain ⟨h, X, G⟩ := T.h
  exact He.glo_ok X G (T.c.fact 2 rfl)
theorem mg_is_greatest (T : Tx K mg) : mg "is_greatest" = some (.ref (He.ga K "is_greatest")) := by
  obtain ⟨h, X, G⟩ := T.h
  exact He.glo_ok X G (T.c.fact 3 rfl)
theorem mg_is_value (T : Tx K mg) : mg "is_value" = some (.ref (He.ga K "is_value")) := by
  obtain ⟨h, X, G⟩ := T.h
  exact He.glo_ok X G (T.c.fact 4 rfl)
theorem mg_is_within (T : Tx K mg) : mg "is_within" = some (.ref (He.ga K "is_within")) := by
  obtain ⟨h, X, G⟩ := T.h
  exact He.glo_ok X G (T.c.fact 5 rfl)
theorem mg_column_named (T : Tx K mg) : mg "column_named" = some (.ref (He.ga K "column_named")) := by
  obtain ⟨h, X, G⟩ := T.h
  exact He.glo_ok X G (T.c.fact 6 rfl)
theorem mg_is_change (T : Tx K mg) : mg "is_change" = some (.ref (He.ga K "is_change")) := by
  obtain ⟨h, X, G⟩ := T.h
  exact He.glo_ok X G (T.c.fact 7 rfl)
theorem mg_has_parts (T : Tx K mg) : mg "has_parts" = some (.ref (He.ga K "has_parts")) := by
  obtain ⟨h, X, G⟩ := T.h
  exact He.glo_ok X G (T.c.fact 8 rfl)
theorem mg_is_single_part (T : Tx K mg) : mg "is_single_part" = some (.ref (He.ga K "is_single_part")) := by
  obtain ⟨h, X, G⟩ := T.h
  exact He.glo_ok X G (T.c.fact 9 rfl)
theorem mg_is_way (T : Tx K mg) : mg "is_way" = some (.ref (He.ga K "is_way")) := by
  obtain ⟨h, X, G⟩ := T.h
  exact He.glo_ok X G (T.c.fact 10 rfl)
theorem mg_kind_of (T : Tx K mg) : mg "kind_of" = some (.ref (He.ga K "kind_of")) := by
  obtain ⟨h, X, G⟩ := T.h
  exact He.glo_ok X G (T.c.fact 11 rfl)
theorem mg_why_not (T : Tx K mg) : mg "why_not" = some (.ref (He.ga K "why_not")) := by
  obtain ⟨h, X, G⟩ := T.h
  exact He.glo_ok X G (T.c.fact 12 rfl)
theorem mg_hindrance (T : Tx K mg) : mg "hindrance" = some (.ref (He.ga K "hindrance")) := by
  obtain ⟨h, X, G⟩ := T.h
  exact He.glo_ok X G (T.c.fact 13 rfl)
theorem mg_add_hindrance (T : Tx K mg) : mg "add_hindrance" = some (.ref (He.ga K "add_hindrance")) := by
  obtain ⟨h, X, G⟩ := T.h
  exact He.glo_ok X G (T.c.fact 14 rfl)
theorem mg_changed_columns (T : Tx K mg) : mg "changed_columns" = some (.ref (He.ga K "changed_columns")) := by
  obtain ⟨h, X, G⟩ := T.h
  exact He.glo_ok X G (T.c.fact 15 rfl)
theorem mg_columns_behind (T : Tx K mg) : mg "columns_behind" = some (.ref (He.ga K "columns_behind")) := by
  obtain ⟨h, X, G⟩ := T.h
  exact He.glo_ok X G (T.c.fact 16 rfl)
theorem mg_changed_column (T : Tx K mg) : mg "changed_column" = some (.ref (He.ga K "changed_column")) := by
  obtain ⟨h, X, G⟩ := T.h
  exact He.glo_ok X G (T.c.fact 17 rfl)
theorem mg_changed_value (T : Tx K mg) : mg "changed_value" = some (.ref (He.ga K "changed_value")) := by
  obtain ⟨h, X, G⟩ := T.h
  exact He.glo_ok X G (T.c.fact 18 rfl)
theorem mg_value_above (T : Tx K mg) : mg "value_above" = some (.ref (He.ga K "value_above")) := by
  obtain ⟨h, X, G⟩ := T.h
  exact He.glo_ok X G (T.c.fact 19 rfl)
theorem mg__law_pool (T : Tx K mg) : mg "_law_pool" = some (.ref (He.ga K "_law_pool")) := by
  obtain ⟨h, X, G⟩ := T.h
  exact He.glo_ok X G (T.c.fact 20 rfl)
theorem mg__law_draw (T : Tx K mg) : mg "_law_draw" = some (.ref (He.ga K "_law_draw")) := by
  obtain ⟨h, X, G⟩ := T.h
  exact He.glo_ok X G (T.c.fact 21 rfl)
theorem mg__law_pick (T : Tx K mg) : mg "_law_pick" = some (.ref (He.ga K "_law_pick")) := by
  obtain ⟨h, X, G⟩ := T.h
  exact He.glo_ok X G (T.c.fact 22 rfl)
theorem mg__law_value (T : Tx K mg) : mg "_law_value" = some (.ref (He.ga K "_law_value")) := by
  obtain ⟨h, X, G⟩ := T.h
  exact He.glo_ok X G (T.c.fact 23 rfl)
theorem mg__law_word (T : Tx K mg) : mg "_law_word" = some (.ref (He.ga K "_law_word")) := by
  obtain ⟨h, X, G⟩ := T.h
  exact He.glo_ok X G (T.c.fact 24 rfl)
theorem mg__law_cut (T : Tx K mg) : mg "_law_cut" = some (.ref (He.ga K "_law_cut")) := by
  obtain ⟨h, X, G⟩ := T.h
  exact He.glo_ok X G (T.c.fact 25 rfl)
theorem mg__law_col_then (T : Tx K mg) : mg "_law_col_then" = some (.ref (He.ga K "_law_col_then")) := by
  obtain ⟨h, X, G⟩ := T.h
  exact He.glo_ok X G (T.c.fact 26 rfl)
theorem mg__law_then (T : Tx K mg) : mg "_law_then" = some (.ref (He.ga K "_law_then")) := by
  obtain ⟨h, X, G⟩ := T.h
  exact He.glo_ok X G (T.c.fact 27 rfl)
theorem mg__law_change (T : Tx K mg) : mg "_law_change" = some (.ref (He.ga K "_law_change")) := by
  obtain ⟨h, X, G⟩ := T.h
  exact He.glo_ok X G (T.c.fact 28 rfl)
theorem mg__law_cols (T : Tx K mg) : mg "_law_cols" = some (.ref (He.ga K "_law_cols")) := by
  obtain ⟨h, X, G⟩ := T.h
  exact He.glo_ok X G (T.c.fact 29 rfl)
theorem mg__law_told (T : Tx K mg) : mg "_law_told" = some (.ref (He.ga K "_law_told")) := by
  obtain ⟨h, X, G⟩ := T.h
  exact He.glo_ok X G (T.c.fact 30 rfl)
theorem mg__law_draw_cols (T : Tx K mg) : mg "_law_draw_cols" = some (.ref (He.ga K "_law_draw_cols")) := by
  obtain ⟨h, X, G⟩ := T.h
  exact He.glo_ok X G (T.c.fact 31 rfl)
theorem mg_law (T : Tx K mg) : mg "law" = some (.ref (He.ga K "law")) := by
  obtain ⟨h, X, G⟩ := T.h
  exact He.glo_ok X G (T.c.fact 32 rfl)
theorem mg_CannotBe (T : Tx K mg) : mg "CannotBe" = some (.ref (He.ga K "CannotBe")) := by
  obtain ⟨h, X, G⟩ := T.h
  exact He.glo_ok X G (T.c.fact 33 rfl)
theorem mg_Column (T : Tx K mg) : mg "Column" = some (.ref (He.ga K "Column")) := by
  obtain ⟨h, X, G⟩ := T.h
  exact He.glo_ok X G (T.c.fact 34 rfl)
theorem cl_Column (T : Tx K mg) : Cls K (He.ga K "Column") := He.cls_ok (T.c.fact 35 rfl)
theorem mk_Column (T : Tx K mg) : Mk K (He.ga K "Column") (He.ma K (He.ga K "Column") "__init__") := He.mkr_ok (T.c.fact 36 rfl)
theorem na_Column_name (T : Tx K mg) : NoAttr K (He.ga K "Column") "name" := He.noat_ok (T.c.fact 37 rfl)
theorem na_Column_greatest (T : Tx K mg) : NoAttr K (He.ga K "Column") "greatest" := He.noat_ok (T.c.fact 38 rfl)
theorem na_Column_default (T : Tx K mg) : NoAttr K (He.ga K "Column") "default" := He.noat_ok (T.c.fact 39 rfl)
theorem na_Column_number (T : Tx K mg) : NoAttr K (He.ga K "Column") "number" := He.noat_ok (T.c.fact 40 rfl)
theorem me_Column___eq__ (T : Tx K mg) : Meth K (He.ga K "Column") "__eq__" (He.ma K (He.ga K "Column") "__eq__") := He.meth_ok (T.c.fact 41 rfl)
theorem me_Column_changed (T : Tx K mg) : Meth K (He.ga K "Column") "changed" (He.ma K (He.ga K "Column") "changed") := He.meth_ok (T.c.fact 42 rfl)
theorem ms_MISSING (T : Tx K mg) : ∃ t, mg "MISSING" = some (.str "missing" t) := by
  obtain ⟨h, X, G⟩ := T.h
  exact He.str_ok X G (T.c.fact 43 rfl)
theorem ms_LETTERS (T : Tx K mg) : ∃ t, mg "LETTERS" = some (.str "abcdefghijklmnopqrstuvwxyz" t) := by
  obtain ⟨h, X, G⟩ := T.h
  exact He.str_ok X G (T.c.fact 44 rfl)
theorem mi_LONGEST_NAME (T : Tx K mg) : ∃ t, mg "LONGEST_NAME" = some (.int 8 t) := by
  obtain ⟨h, X, G⟩ := T.h
  exact He.int_ok X G (T.c.fact 45 rfl)
theorem mi_MOST_GREATEST (T : Tx K mg) : ∃ t, mg "MOST_GREATEST" = some (.int 99 t) := by
  obtain ⟨h, X, G⟩ := T.h
  exact He.int_ok X G (T.c.fact 46 rfl)
theorem mg_PARTS (T : Tx K mg) : mg "PARTS" = some (.ref (He.ga K "PARTS")) := by
  obtain ⟨h, X, G⟩ := T.h
  exact He.glo_ok X G (T.c.fact 47 rfl)
theorem mg_WAYS (T : Tx K mg) : mg "WAYS" = some (.ref (He.ga K "WAYS")) := by
  obtain ⟨h, X, G⟩ := T.h
  exact He.glo_ok X G (T.c.fact 48 rfl)
theorem mi_MOST_COLUMNS (T : Tx K mg) : ∃ t, mg "MOST_COLUMNS" = some (.int 6 t) := by
  obtain ⟨h, X, G⟩ := T.h
  exact He.int_ok X G (T.c.fact 49 rfl)
theorem fr_isinstance (T : Tx K mg) : mg "isinstance" = none := by
  obtain ⟨h, X, G⟩ := T.h
  exact He.free_ok X G (T.c.fact 50 rfl)
theorem fr_int (T : Tx K mg) : mg "int" = none := by
  obtain ⟨h, X, G⟩ := T.h
  exact He.free_ok X G (T.c.fact 51 rfl)
theorem fr_bool (T : Tx K mg) : mg "bool" = none := by
  obtain ⟨h, X, G⟩ := T.h
  exact He.free_ok X G (T.c.fact 52 rfl)
theorem fr_str (T : Tx K mg) : mg "str" = none := by
  obtain ⟨h, X, G⟩ := T.h
  exact He.free_ok X G (T.c.fact 53 rfl)
theorem fr_all (T : Tx K mg) : mg "all" = none := by
  obtain ⟨h, X, G⟩ := T.h
  exact He.free_ok X G (T.c.fact 54 rfl)
theorem fr_len (T : Tx K mg) : mg "len" = none := by
  obtain ⟨h, X, G⟩ := T.h
  exact He.free_ok X G (T.c.fact 55 rfl)
theorem fr_tuple (T : Tx K mg) : mg "tuple" = none := by
  obtain ⟨h, X, G⟩ := T.h
  exact He.free_ok X G (T.c.fact 56 rfl)
theorem fr_list (T : Tx K mg) : mg "list" = none := by
  obtain ⟨h, X, G⟩ := T.h
  exact He.free_ok X G (T.c.fact 57 rfl)
theorem fr_max (T : Tx K mg) : mg "max" = none := by
  obtain ⟨h, X, G⟩ := T.h
  exact He.free_ok X G (T.c.fact 58 rfl)
theorem fr_range (T : Tx K mg) : mg "range" = none := by
  obtain ⟨h, X, G⟩ := T.h
  exact He.free_ok X G (T.c.fact 59 rfl)
theorem fr_min (T : Tx K mg) : mg "min" = none := by
  obtain ⟨h, X, G⟩ := T.h
  exact He.free_ok X G (T.c.fact 60 rfl)
theorem fd_BadPart___init__ (T : Tx K mg) : ∃ fd, FunD K "__init__" "BadPart.__init__" (defArgs s_BadPart___init__) (defBody s_BadPart___init__) (defScope s_BadPart___init__) (d_BadPart___init__.dvs K) (d_BadPart___init__.kws K) (He.ma K (He.ga K "BadPart") "__init__") fd := T.c.def_ 0 (d := d_BadPart___init__) rfl
theorem fd_BadChange___init__ (T : Tx K mg) : ∃ fd, FunD K "__init__" "BadChange.__init__" (defArgs s_BadChange___init__) (defBody s_BadChange___init__) (defScope s_BadChange___init__) (d_BadChange___init__.dvs K) (d_BadChange___init__.kws K) (He.ma K (He.ga K "BadChange") "__init__") fd := T.c.def_ 1 (d := d_BadChange___init__) rfl
theorem fd_CannotBe___init__ (T : Tx K mg) : ∃ fd, FunD K "__init__" "CannotBe.__init__" (defArgs s_CannotBe___init__) (defBody s_CannotBe___init__) (defScope s_CannotBe___init__) (d_CannotBe___init__.dvs K) (d_CannotBe___init__.kws K) (He.ma K (He.ga K "CannotBe") "__init__") fd := T.c.def_ 2 (d := d_CannotBe___init__) rfl
theorem fd_is_whole (T : Tx K mg) : ∃ fd, FunD K "is_whole" "is_whole" (defArgs s_is_whole) (defBody s_is_whole) (defScope s_is_whole) (d_is_whole.dvs K) (d_is_whole.kws K) (He.ga K "is_whole") fd := T.c.def_ 3 (d := d_is_whole) rfl
theorem fd_is_word (T : Tx K mg) : ∃ fd, FunD K "is_word" "is_word" (defArgs s_is_word) (defBody s_is_word) (defScope s_is_word) (d_is_word.dvs K) (d_is_word.kws K) (He.ga K "is_word") fd := T.c.def_ 4 (d := d_is_word) rfl
theorem fd_is_name (T : Tx K mg) : ∃ fd, FunD K "is_name" "is_name" (defArgs s_is_name) (defBody s_is_name) (defScope s_is_name) (d_is_name.dvs K) (d_is_name.kws K) (He.ga K "is_name") fd := T.c.def_ 5 (d := d_is_name) rfl
theorem fd_is_greatest (T : Tx K mg) : ∃ fd, FunD K "is_greatest" "is_greatest" (defArgs s_is_greatest) (defBody s_is_greatest) (defScope s_is_greatest) (d_is_greatest.dvs K) (d_is_greatest.kws K) (He.ga K "is_greatest") fd := T.c.def_ 6 (d := d_is_greatest) rfl
theorem fd_is_value (T : Tx K mg) : ∃ fd, FunD K "is_value" "is_value" (defArgs s_is_value) (defBody s_is_value) (defScope s_is_value) (d_is_value.dvs K) (d_is_value.kws K) (He.ga K "is_value") fd := T.c.def_ 7 (d := d_is_value) rfl
theorem fd_is_within (T : Tx K mg) : ∃ fd, FunD K "is_within" "is_within" (defArgs s_is_within) (defBody s_is_within) (defScope s_is_within) (d_is_within.dvs K) (d_is_within.kws K) (He.ga K "is_within") fd := T.c.def_ 8 (d := d_is_within) rfl
theorem fd_Column___init__ (T : Tx K mg) : ∃ fd, FunD K "__init__" "Column.__init__" (defArgs s_Column___init__) (defBody s_Column___init__) (defScope s_Column___init__) (d_Column___init__.dvs K) (d_Column___init__.kws K) (He.ma K (He.ga K "Column") "__init__") fd := T.c.def_ 9 (d := d_Column___init__) rfl
theorem fd_Column___eq__ (T : Tx K mg) : ∃ fd, FunD K "__eq__" "Column.__eq__" (defArgs s_Column___eq__) (defBody s_Column___eq__) (defScope s_Column___eq__) (d_Column___eq__.dvs K) (d_Column___eq__.kws K) (He.ma K (He.ga K "Column") "__eq__") fd := T.c.def_ 10 (d := d_Column___eq__) rfl
theorem fd_Column___contains__ (T : Tx K mg) : ∃ fd, FunD K "__contains__" "Column.__contains__" (defArgs s_Column___contains__) (defBody s_Column___contains__) (defScope s_Column___contains__) (d_Column___contains__.dvs K) (d_Column___contains__.kws K) (He.ma K (He.ga K "Column") "__contains__") fd := T.c.def_ 11 (d := d_Column___contains__) rfl
theorem fd_Column_changed (T : Tx K mg) : ∃ fd, FunD K "changed" "Column.changed" (defArgs s_Column_changed) (defBody s_Column_changed) (defScope s_Column_changed) (d_Column_changed.dvs K) (d_Column_changed.kws K) (He.ma K (He.ga K "Column") "changed") fd := T.c.def_ 12 (d := d_Column_changed) rfl
theorem fd_column_named (T : Tx K mg) : ∃ fd, FunD K "column_named" "column_named" (defArgs s_column_named) (defBody s_column_named) (defScope s_column_named) (d_column_named.dvs K) (d_column_named.kws K) (He.ga K "column_named") fd := T.c.def_ 13 (d := d_column_named) rfl
theorem fd_is_change (T : Tx K mg) : ∃ fd, FunD K "is_change" "is_change" (defArgs s_is_change) (defBody s_is_change) (defScope s_is_change) (d_is_change.dvs K) (d_is_change.kws K) (He.ga K "is_change") fd := T.c.def_ 14 (d := d_is_change) rfl
theorem fd_has_parts (T : Tx K mg) : ∃ fd, FunD K "has_parts" "has_parts" (defArgs s_has_parts) (defBody s_has_parts) (defScope s_has_parts) (d_has_parts.dvs K) (d_has_parts.kws K) (He.ga K "has_parts") fd := T.c.def_ 15 (d := d_has_parts) rfl
theorem fd_is_single_part (T : Tx K mg) : ∃ fd, FunD K "is_single_part" "is_single_part" (defArgs s_is_single_part) (defBody s_is_single_part) (defScope s_is_single_part) (d_is_single_part.dvs K) (d_is_single_part.kws K) (He.ga K "is_single_part") fd := T.c.def_ 16 (d := d_is_single_part) rfl
theorem fd_is_way (T : Tx K mg) : ∃ fd, FunD K "is_way" "is_way" (defArgs s_is_way) (defBody s_is_way) (defScope s_is_way) (d_is_way.dvs K) (d_is_way.kws K) (He.ga K "is_way") fd := T.c.def_ 17 (d := d_is_way) rfl
theorem fd_kind_of (T : Tx K mg) : ∃ fd, FunD K "kind_of" "kind_of" (defArgs s_kind_of) (defBody s_kind_of) (defScope s_kind_of) (d_kind_of.dvs K) (d_kind_of.kws K) (He.ga K "kind_of") fd := T.c.def_ 18 (d := d_kind_of) rfl
theorem fd_why_not (T : Tx K mg) : ∃ fd, FunD K "why_not" "why_not" (defArgs s_why_not) (defBody s_why_not) (defScope s_why_not) (d_why_not.dvs K) (d_why_not.kws K) (He.ga K "why_not") fd := T.c.def_ 19 (d := d_why_not) rfl
theorem fd_hindrance (T : Tx K mg) : ∃ fd, FunD K "hindrance" "hindrance" (defArgs s_hindrance) (defBody s_hindrance) (defScope s_hindrance) (d_hindrance.dvs K) (d_hindrance.kws K) (He.ga K "hindrance") fd := T.c.def_ 20 (d := d_hindrance) rfl
theorem fd_add_hindrance (T : Tx K mg) : ∃ fd, FunD K "add_hindrance" "add_hindrance" (defArgs s_add_hindrance) (defBody s_add_hindrance) (defScope s_add_hindrance) (d_add_hindrance.dvs K) (d_add_hindrance.kws K) (He.ga K "add_hindrance") fd := T.c.def_ 21 (d := d_add_hindrance) rfl
theorem fd_changed_columns (T : Tx K mg) : ∃ fd, FunD K "changed_columns" "changed_columns" (defArgs s_changed_columns) (defBody s_changed_columns) (defScope s_changed_columns) (d_changed_columns.dvs K) (d_changed_columns.kws K) (He.ga K "changed_columns") fd := T.c.def_ 22 (d := d_changed_columns) rfl
theorem fd_columns_behind (T : Tx K mg) : ∃ fd, FunD K "columns_behind" "columns_behind" (defArgs s_columns_behind) (defBody s_columns_behind) (defScope s_columns_behind) (d_columns_behind.dvs K) (d_columns_behind.kws K) (He.ga K "columns_behind") fd := T.c.def_ 23 (d := d_columns_behind) rfl
theorem fd_changed_column (T : Tx K mg) : ∃ fd, FunD K "changed_column" "changed_column" (defArgs s_changed_column) (defBody s_changed_column) (defScope s_changed_column) (d_changed_column.dvs K) (d_changed_column.kws K) (He.ga K "changed_column") fd := T.c.def_ 24 (d := d_changed_column) rfl
theorem fd_changed_value (T : Tx K mg) : ∃ fd, FunD K "changed_value" "changed_value" (defArgs s_changed_value) (defBody s_changed_value) (defScope s_changed_value) (d_changed_value.dvs K) (d_changed_value.kws K) (He.ga K "changed_value") fd := T.c.def_ 25 (d := d_changed_value) rfl
theorem fd_value_above (T : Tx K mg) : ∃ fd, FunD K "value_above" "value_above" (defArgs s_value_above) (defBody s_value_above) (defScope s_value_above) (d_value_above.dvs K) (d_value_above.kws K) (He.ga K "value_above") fd := T.c.def_ 26 (d := d_value_above) rfl
theorem fd__law_pool (T : Tx K mg) : ∃ fd, FunD K "_law_pool" "_law_pool" (defArgs s__law_pool) (defBody s__law_pool) (defScope s__law_pool) (d__law_pool.dvs K) (d__law_pool.kws K) (He.ga K "_law_pool") fd := T.c.def_ 27 (d := d__law_pool) rfl
theorem fd__law_draw (T : Tx K mg) : ∃ fd, FunD K "_law_draw" "_law_draw" (defArgs s__law_draw) (defBody s__law_draw) (defScope s__law_draw) (d__law_draw.dvs K) (d__law_draw.kws K) (He.ga K "_law_draw") fd := T.c.def_ 28 (d := d__law_draw) rfl
theorem fd__law_pick (T : Tx K mg) : ∃ fd, FunD K "_law_pick" "_law_pick" (defArgs s__law_pick) (defBody s__law_pick) (defScope s__law_pick) (d__law_pick.dvs K) (d__law_pick.kws K) (He.ga K "_law_pick") fd := T.c.def_ 29 (d := d__law_pick) rfl
theorem fd__law_value (T : Tx K mg) : ∃ fd, FunD K "_law_value" "_law_value" (defArgs s__law_value) (defBody s__law_value) (defScope s__law_value) (d__law_value.dvs K) (d__law_value.kws K) (He.ga K "_law_value") fd := T.c.def_ 30 (d := d__law_value) rfl
theorem fd__law_word (T : Tx K mg) : ∃ fd, FunD K "_law_word" "_law_word" (defArgs s__law_word) (defBody s__law_word) (defScope s__law_word) (d__law_word.dvs K) (d__law_word.kws K) (He.ga K "_law_word") fd := T.c.def_ 31 (d := d__law_word) rfl
theorem fd__law_cut (T : Tx K mg) : ∃ fd, FunD K "_law_cut" "_law_cut" (defArgs s__law_cut) (defBody s__law_cut) (defScope s__law_cut) (d__law_cut.dvs K) (d__law_cut.kws K) (He.ga K "_law_cut") fd := T.c.def_ 32 (d := d__law_cut) rfl
theorem fd__law_col_then (T : Tx K mg) : ∃ fd, FunD K "_law_col_then" "_law_col_then" (defArgs s__law_col_then) (defBody s__law_col_then) (defScope s__law_col_then) (d__law_col_then.dvs K) (d__law_col_then.kws K) (He.ga K "_law_col_then") fd := T.c.def_ 33 (d := d__law_col_then) rfl
theorem fd__law_then (T : Tx K mg) : ∃ fd, FunD K "_law_then" "_law_then" (defArgs s__law_then) (defBody s__law_then) (defScope s__law_then) (d__law_then.dvs K) (d__law_then.kws K) (He.ga K "_law_then") fd := T.c.def_ 34 (d := d__law_then) rfl
theorem fd__law_change (T : Tx K mg) : ∃ fd, FunD K "_law_change" "_law_change" (defArgs s__law_change) (defBody s__law_change) (defScope s__law_change) (d__law_change.dvs K) (d__law_change.kws K) (He.ga K "_law_change") fd := T.c.def_ 35 (d := d__law_change) rfl
theorem fd__law_cols (T : Tx K mg) : ∃ fd, FunD K "_law_cols" "_law_cols" (defArgs s__law_cols) (defBody s__law_cols) (defScope s__law_cols) (d__law_cols.dvs K) (d__law_cols.kws K) (He.ga K "_law_cols") fd := T.c.def_ 36 (d := d__law_cols) rfl
theorem fd__law_told (T : Tx K mg) : ∃ fd, FunD K "_law_told" "_law_told" (defArgs s__law_told) (defBody s__law_told) (defScope s__law_told) (d__law_told.dvs K) (d__law_told.kws K) (He.ga K "_law_told") fd := T.c.def_ 37 (d := d__law_told) rfl
theorem fd__law_draw_cols (T : Tx K mg) : ∃ fd, FunD K "_law_draw_cols" "_law_draw_cols" (defArgs s__law_draw_cols) (defBody s__law_draw_cols) (defScope s__law_draw_cols) (d__law_draw_cols.dvs K) (d__law_draw_cols.kws K) (He.ga K "_law_draw_cols") fd := T.c.def_ 38 (d := d__law_draw_cols) rfl
theorem fd_law (T : Tx K mg) : ∃ fd, FunD K "law" "law" (defArgs s_law) (defBody s_law) (defScope s_law) (d_law.dvs K) (d_law.kws K) (He.ga K "law") fd := T.c.def_ 39 (d := d_law) rfl
theorem ex_PARTS (T : Tx K mg) : He.tupB K "PARTS" [(.str "name"), (.str "greatest"), (.str "default"), (.str "number")] = true := List.all_eq_true.mp T.e _ (List.mem_of_getElem? (i := 0) rfl)
theorem ex_WAYS (T : Tx K mg) : He.tupB K "WAYS" [(.str "cut"), (.str "none"), (.str "refuse")] = true := List.all_eq_true.mp T.e _ (List.mem_of_getElem? (i := 1) rfl)
theorem ex_BadPart_x (T : Tx K mg) : oexB K "BadPart" "part" = true := List.all_eq_true.mp T.e _ (List.mem_of_getElem? (i := 2) rfl)
theorem ex_BadChange_x (T : Tx K mg) : oexB K "BadChange" "index" = true := List.all_eq_true.mp T.e _ (List.mem_of_getElem? (i := 3) rfl)
theorem ex_CannotBe_x (T : Tx K mg) : oexB K "CannotBe" "word" = true := List.all_eq_true.mp T.e _ (List.mem_of_getElem? (i := 4) rfl)
theorem ex_Column (T : Tx K mg) : insB K "Column" = true := List.all_eq_true.mp T.e _ (List.mem_of_getElem? (i := 5) rfl)
end
/-! ### the head and the end -/
abbrev RowR : PySem.W.OpenRow := PySem.W.OpenLaw.row PySem.Challenge.rw_editionrows_k03_whole_words
abbrev hkR : PySem.W.Hook := hookP 5 fal fnl exl
def obR (s : PySem.W.SharedT) : AlP := obsP 5 fal fnl exl (HandSHeadRun.getT s)
theorem obR_eq (s : PySem.W.SharedT) : obR s = hkR.obs s.abs := obsP_eq (HandSHeadRun.getT_eq s)
abbrev looseR : List PySem.Str := ((["_wall", "TableError", "BadPart", "BadChange", "CannotBe", "MISSING", "LETTERS", "LONGEST_NAME", "MOST_GREATEST", "is_whole", "is_word", "is_name", "is_greatest", "is_value", "is_within", "PARTS", "Column", "column_named", "WAYS", "MOST_COLUMNS", "is_change", "has_parts", "is_single_part", "is_way", "kind_of"] : List PySem.Str) ++ (["why_not", "hindrance", "add_hindrance", "changed_columns", "columns_behind", "changed_column", "changed_value", "value_above", "_law_pool", "_law_draw", "_law_pick", "_law_value", "_law_word", "_law_cut", "_law_col_then", "_law_then", "_law_change", "_law_cols", "_law_told", "_law_draw_cols"] : List PySem.Str))
theorem runL (w : World) : ∀ os : PySem.OsState, (HandSHeadRun.endF (HandSHeadRun.stepQ (HandSHeadRun.denQ HandSHeadRun.tabQ) RowR.prog w) 9000 RowR.prog w os).map (fun s => (HandSHeadRun.looksF RowR.prog (PySem.W.boot_heap w.params) s.abs, HandSHeadRun.seenQ (PySem.W.view RowR.prog [50]) looseR (PySem.importedModules RowR.prog.main.body) (fun s => PySem.W.xlAt (PySem.W.view RowR.prog [50]) [] s && PySem.W.recOk RowR.toRowW.records s) s.abs)) = some (true, PySem.W.openGood (PySem.W.view RowR.prog [50]) looseR) := by
  intro os
  kernel_rfl
theorem runO0 (w : World) : ∀ os : PySem.OsState, (HandSHeadRun.endF (HandSHeadRun.stepQ (HandSHeadRun.denQ HandSHeadRun.tabQ) RowR.prog w) 9000 RowR.prog w os).map (fun s => obsP 5 fa0 fn0 exl (HandSHeadRun.getT s)) = some (valP fn0) := by
  intro os
  kernel_rfl
theorem obs_two {n : Nat} {fa fb : List He.Fa} {fn gn : List He.DefD} {ex ey : PySem.W.Frag → Bool} {g : Addr → Option Obj} (h1 : obsP n fa fn ex g = valP fn) (h2 : obsP n fb gn ey g = valP gn) : obsP n (fa ++ fb) (fn ++ gn) ex g = valP (fn ++ gn) := by
  have a1 : ((fa.all fun f => f.ok (He.frG g (asW g n))) && fn.all fun d => d.ok (He.frG g (asW g n))) = true := congrArg (fun z : AlP => z.1.1) h1
  have a2 : fn.map (fun d => He.fnW (He.frG g (asW g n)) d.at_) = fn.map He.DefD.val := (congrArg (fun z : AlP => z.1.2) h1).trans (mapV_eq fn)
  have a3 : ex (He.frG g (asW g n)) = true := congrArg (fun z : AlP => z.2) h1
  have b1 : ((fb.all fun f => f.ok (He.frG g (asW g n))) && gn.all fun d => d.ok (He.frG g (asW g n))) = true := congrArg (fun z : AlP => z.1.1) h2
  have b2 : gn.map (fun d => He.fnW (He.frG g (asW g n)) d.at_) = gn.map He.DefD.val := (congrArg (fun z : AlP => z.1.2) h2).trans (mapV_eq gn)
  rw [valP_eq]
  rw [Bool.and_eq_true] at a1 b1
  show ((((fa ++ fb).all fun f => f.ok (He.frG g (asW g n))) && (fn ++ gn).all fun d => d.ok (He.frG g (asW g n)), (fn ++ gn).map fun d => He.fnW (He.frG g (asW g n)) d.at_), ex (He.frG g (asW g n))) = ((true, (fn ++ gn).map He.DefD.val), true)
  rw [List.all_append, List.all_append, a1.1, a1.2, b1.1, b1.2, List.map_append, a2, b2, List.map_append, a3]
  rfl
theorem join_run {S A B C : Type} {o : Option S} {f : S → A} {g : S → B} {h : S → C} {a : A} {b : B} {c : C} (e1 : o.map (fun s => (f s, g s)) = some (a, b)) (e2 : o.map h = some c) : o.map (fun s => (f s, g s, h s)) = some (a, b, c) := by
  cases o with
  | none => cases e1
  | some s =>
    have l : (f s, g s) = (a, b) := Option.some.inj e1
    have l1 : f s = a := congrArg Prod.fst l
    have l2 : g s = b := congrArg Prod.snd l
    have r : h s = c := Option.some.inj e2
    show some (f s, g s, h s) = some (a, b, c)
    rw [l1, l2, r]
theorem join_obs {n : Nat} {fa fb : List He.Fa} {fn gn : List He.DefD} {ex ey : PySem.W.Frag → Bool} {o : Option PySem.W.SharedT} (e1 : o.map (fun s => obsP n fa fn ex (HandSHeadRun.getT s)) = some (valP fn)) (e2 : o.map (fun s => obsP n fb gn ey (HandSHeadRun.getT s)) = some (valP gn)) :
    o.map (fun s => obsP n (fa ++ fb) (fn ++ gn) ex (HandSHeadRun.getT s)) = some (valP (fn ++ gn)) := by
  cases o with
  | none => cases e1
  | some s => exact congrArg some (obs_two (Option.some.inj e1) (Option.some.inj e2))
theorem runR (w : World) : HandSHeadRun.RunEq RowR (PySem.W.view RowR.prog [50]) hkR obR 9000 looseR w := fun os => join_run (runL w os) (runO0 w os)
section
variable {P : Program} {w : World} {K : PySem.W.Frag} {mg : Str → Option Value} {base : Heap}
/-! own errors that keep one argument: made, raised -/
/-- what such an __init__ does -/
def sp_keep1 (K : PySem.W.Frag) (x f : Str) : Sp := fun vs H Q _ => ∃ (a : Addr) (v : V), vs = [.ref a, v] ∧ H a = some (exo a (He.ga K x) none) ∧
  ∀ dx, H dx = none → dx ≠ a → Q .non (upd (upd H dx (exd dx [(f, v)])) a (exo a (He.ga K x) (some dx)))
/-- raise C(e) -/
def tRaise1 (K : PySem.W.Frag) (x f : Str) (W : WX) (te : TE) : TS := fun _ σ H => te σ H fun v H1 => ∀ d, H1 d = none → W (.ref (He.ga K x)) (some d) σ (upd H1 d (.xd [(f, v)]))
section
variable {X : Cx}
/-- an expression's reading, weakened -/
theorem pe_mono {e : Expr} {te : TE} (he : PE X e te) : PE X e (fun σ H Q => ∃ R : VK, te σ H R ∧ ∀ v H1, R v H1 → Q v H1) := by
  refine ⟨fun pins s σ H Q I h => ?_⟩
  obtain ⟨R, h1, h2⟩ := h
  exact thn (he.run pins s σ H _ I h1) fun u s1 ⟨x, H1, I1, rx, q⟩ => ⟨x, H1, I1, rx, h2 x H1 q⟩
theorem ps_raise1 {x f : Str} {W : WX} {e : Expr} {te : TE} {k : Nat} {fd : FuncData} {ps : List Str} {p pos pos2 : Pos} (hc : X.calm = true) (tk : Takes X W) (T : OexF X.K x f) (F1 : FnOk X.prog X.w X.K X.mg X.base CX0 k (He.ma X.K (He.ga X.K x) "__init__") fd ps (sp_keep1 X.K x f)) (hr : Room (k + 1) X.A) (hb : Binds X.K fd ps [])
    (hm : X.mg x = some (.ref (He.ga X.K x))) (he : PE X e te) (hg : Gl X x := by rfl) (hdb : (x == ("__debug__" : Str)) = false := by decide) (hst : starEach (e :: []) X.env = (false, eval e X.env) :: starEach [] X.env := by rfl) (hpl : (backTo pos (starEach [] X.env)).any (·.1) = false := by rfl) :
    PS X (.Raise (some (.Call (.Name x p) [e] [] pos)) none pos2) (tRaise1 X.K x f W te) := by
  refine ⟨fun pins s σ H D I h => ?_⟩
  have F2 : FnOk X.prog X.w X.K X.mg X.base CX0 k (He.ma X.K (He.ga X.K x) "__init__") fd ps (sp_keep1 X.K x f) := F1
  refine (ps_raise hc tk (pmk_oex T.o T.i T.ti F2 hr hb .nil (fun _ _ _ _ _ _ _ z => z.elim) hg hm (pa_cons (hs := hst) (pe_mono he) pa_nil) hdb hst hpl)).run pins s σ H D I ?_
  refine ⟨_, h, fun v H1 q => ⟨by show 1 ≤ 1000; decide, fun a ha => ⟨a, v, rfl, upd_same, fun dx ndx ne => ⟨rfl, dx, [(f, v)], upd_same, ?_, ?_, ?_⟩⟩⟩⟩
  · rw [upd_ne ne, upd_same]
  · rw [upd_ne ne] at ndx
    exact ndx
  · rw [upd_ne ne] at ndx
    have e1 : upd (del (upd (upd (upd H1 a (exo a (He.ga X.K x) none)) dx (exd dx [(f, v)])) a (exo a (He.ga X.K x) (some dx))) a) dx (.xd [(f, v)]) = upd H1 dx (.xd [(f, v)]) := by
      funext b
      by_cases hb : b = dx
      · rw [hb, upd_same, upd_same]
      · rw [upd_ne hb, upd_ne hb]
        by_cases hq : b = a
        · rw [hq, del_same, ha]
        · rw [del_ne hq, upd_ne hq, upd_ne hb, upd_ne hq]
    rw [e1]
    exact q dx ndx
end
theorem takesE {X : Cx} {E : XK} (hs : X.stack = X.env :: X.outer) (hf : X.env.frame = some X.env.locals) (hex : X.ex = []) {E₁ : Value → Shared → Prop}
    (hx : X.xe = fun e s' => wpAny (model X.prog X.w) X.A (leaving X.env e) (fun _ s'' => L2.CX X.prog X.w X.outer X.H_0 X.s_0 E e s'') E₁ s') : Takes X (fun cls d _ H => E cls d H) := takes_of hs hf hex hx
/-- what a called def lets out, this one lets out -/
theorem passE {X : Cx} {E : XK} (tk : Takes X (fun cls d _ H' => E cls d H')) : Passes (L2.CX X.prog X.w) X E := fun pins σ H s e s' I c => passAt tk σ pins H s e s' I c

theorem ok_BadPart_init (T : Tx K mg) : ∃ fd, FnOk P w K mg base CX0 1 (He.ma K (He.ga K "BadPart") "__init__") fd ["self", "part"] (sp_keep1 K "BadPart" "part") ∧ Binds K fd ["self", "part"] [] := by
  have ox := oexB_ok (ex_BadPart_x T)
  refine mkMeth (fd_BadPart___init__ T) sc_BadPart___init__ (fun _ _ _ _ _ _ us hl => match us, hl with | [_, _], _ => rfl) (fun vs H Q E h => ?_) (fun cdv A outer s H vs Q E hr h => ?_)
  · obtain ⟨a, v, rfl, _⟩ := h
    rfl
  obtain ⟨a, v, rfl, ha, k⟩ := h
  exact ⟨_, pss_one (ps_ost (pv 0) (pv 1)), _, rfl, _, rfl, a, _, rfl, ox.o, ox.no, .inl ⟨ha, fun dx nd ne => k dx nd ne⟩⟩
theorem ok_BadChange_init (T : Tx K mg) : ∃ fd, FnOk P w K mg base CX0 1 (He.ma K (He.ga K "BadChange") "__init__") fd ["self", "index"] (sp_keep1 K "BadChange" "index") ∧ Binds K fd ["self", "index"] [] := by
  have ox := oexB_ok (ex_BadChange_x T)
  refine mkMeth (fd_BadChange___init__ T) sc_BadChange___init__ (fun _ _ _ _ _ _ us hl => match us, hl with | [_, _], _ => rfl) (fun vs H Q E h => ?_) (fun cdv A outer s H vs Q E hr h => ?_)
  · obtain ⟨a, v, rfl, _⟩ := h
    rfl
  obtain ⟨a, v, rfl, ha, k⟩ := h
  exact ⟨_, pss_one (ps_ost (pv 0) (pv 1)), _, rfl, _, rfl, a, _, rfl, ox.o, ox.no, .inl ⟨ha, fun dx nd ne => k dx nd ne⟩⟩
theorem ok_CannotBe_init (T : Tx K mg) : ∃ fd, FnOk P w K mg base CX0 1 (He.ma K (He.ga K "CannotBe") "__init__") fd ["self", "word"] (sp_keep1 K "CannotBe" "word") ∧ Binds K fd ["self", "word"] [] := by
  have ox := oexB_ok (ex_CannotBe_x T)
  refine mkMeth (fd_CannotBe___init__ T) sc_CannotBe___init__ (fun _ _ _ _ _ _ us hl => match us, hl with | [_, _], _ => rfl) (fun vs H Q E h => ?_) (fun cdv A outer s H vs Q E hr h => ?_)
  · obtain ⟨a, v, rfl, _⟩ := h
    rfl
  obtain ⟨a, v, rfl, ha, k⟩ := h
  exact ⟨_, pss_one (ps_ost (pv 0) (pv 1)), _, rfl, _, rfl, a, _, rfl, ox.o, ox.no, .inl ⟨ha, fun dx nd ne => k dx nd ne⟩⟩
/-! is_whole -/
def sp_is_whole (K : PySem.W.Frag) : Sp := fun vs H Q _ => ∃ (x : V) (t : String), vs = [x] ∧ TyX K H x (.type t) ∧ Q (.bl (isI x)) H
theorem ok_is_whole (T : Tx K mg) : Callee P w K mg base CX0 1 "is_whole" ["value"] [] (sp_is_whole K) := by
  refine mkCallee (fd_is_whole T) (mg_is_whole T) sc_is_whole (fun _ _ _ _ _ _ us hl => match us, hl with | [_], _ => rfl) (fun vs H Q E h => ?_) (fun cdv A outer s H vs Q E hr h => ?_)
  · obtain ⟨x, t, rfl, _⟩ := h
    rfl
  · obtain ⟨x, t, rfl, ty, k⟩ := h
    obtain ⟨ba, bb, e1, e2, e3⟩ := kit_whole ty
    refine ⟨_, pss_one (ps_ret (pe_and (pe_callB call_isi (by rfl) (fr_isinstance T) (by decide +kernel) (pa_cons (pv 0) (pa_cons (pe_bltn (v := .ty "int") (by rfl) (fr_int T) (by decide +kernel) rfl) pa_nil)))
      (pe_one (pe_not (pe_callB call_isi (by rfl) (fr_isinstance T) (by decide +kernel) (pa_cons (pv 0) (pa_cons (pe_bltn (v := .ty "bool") (by rfl) (fr_bool T) (by decide +kernel) rfl) pa_nil))))))), ?_⟩
    refine ⟨x, rfl, x, .ty "int", _, _, ba, rfl, .ty "int", ty, kit_ty e1, ba, rfl, ?_⟩
    cases ba with
    | false =>
      refine iteF ?_
      rw [← e3] at k
      exact k
    | true =>
      refine iteT ⟨x, rfl, x, .ty "bool", _, _, bb, rfl, .ty "bool", ty, kit_ty e2, bb, rfl, ?_⟩
      rw [← e3] at k
      exact k
/-! is_word, of any value and a tuple of words -/
def wordV (x : V) (xs : List V) : Bool := match x with
  | .str z => inV (.str z) xs
  | _ => false
theorem kit_strW {K : PySem.W.Frag} {H : Hp} {x : V} {t : String} (ty : TyX K H x (.type t)) : ∃ a : Bool, kitB t "str" = some a ∧ ((a = true ∧ ∃ z, x = .str z) ∨ (a = false ∧ ∀ xs, wordV x xs = false)) := by
  cases ty with
  | base h =>
    cases h with
    | str z => exact ⟨true, by decide +kernel, .inl ⟨rfl, z, rfl⟩⟩
    | _ => exact ⟨false, by decide +kernel, .inr ⟨rfl, fun _ => rfl⟩⟩
  | _ => exact ⟨false, by decide +kernel, .inr ⟨rfl, fun _ => rfl⟩⟩
def sp_is_word (K : PySem.W.Frag) : Sp := fun vs H Q _ => ∃ (x : V) (t : String) (p : Addr) (xs : List V), vs = [x, .ref p] ∧ TyX K H x (.type t) ∧ SqT K H p xs ∧ xs.all flatV = true ∧ Q (.bl (wordV x xs)) H
theorem ok_is_word (T : Tx K mg) : Callee P w K mg base CX0 1 "is_word" ["value", "words"] [] (sp_is_word K) := by
  refine mkCallee (fd_is_word T) (mg_is_word T) sc_is_word (fun _ _ _ _ _ _ us hl => match us, hl with | [_, _], _ => rfl) (fun vs H Q E h => ?_) (fun cdv A outer s H vs Q E hr h => ?_)
  · obtain ⟨x, t, p, xs, rfl, _⟩ := h
    rfl
  · obtain ⟨x, t, p, xs, rfl, ty, hp, hf, k⟩ := h
    obtain ⟨a, e1, e2⟩ := kit_strW ty
    refine ⟨_, pss_one (ps_ret (pe_and (pe_callB call_isi (by rfl) (fr_isinstance T) (by decide +kernel) (pa_cons (pv 0) (pa_cons (pe_bltn (v := .ty "str") (by rfl) (fr_str T) (by decide +kernel) rfl) pa_nil)))
      (pe_one (pe_cmpR op_in_seq (pv 0) (pv 1) (by rfl))))), ?_⟩
    refine ⟨x, rfl, x, .ty "str", _, _, a, rfl, .ty "str", ty, kit_ty e1, a, rfl, ?_⟩
    rcases e2 with ⟨rfl, z, rfl⟩ | ⟨rfl, e⟩
    · exact iteT ⟨_, rfl, _, rfl, p, xs, rfl, .inr hp, rfl, hf, k⟩
    · rw [e xs] at k
      exact k
/-! is_name -/
def letters : Str := "abcdefghijklmnopqrstuvwxyz"
def isNm : V → Bool
  | .str n => decide (1 ≤ n.length) && (decide (n.length ≤ 8) && n.cps.toList.all fun c => decide (c ∈ letters.cps.toList))
  | _ => false
def sp_is_name (K : PySem.W.Frag) : Sp := fun vs H Q _ => ∃ (x : V) (t : String), vs = [x] ∧ TyX K H x (.type t) ∧ (∀ n, x = .str n → n.length ≤ 1000) ∧ ∀ H', Same H H' → Q (.bl (isNm x)) H'
theorem kit_str2 {K : PySem.W.Frag} {H : Hp} {x : V} {t : String} (ty : TyX K H x (.type t)) : ∃ a : Bool, kitB t "str" = some a ∧ ((a = true ∧ ∃ z, x = .str z) ∨ (a = false ∧ ∀ z, x ≠ .str z)) := by
  cases ty with
  | base h =>
    cases h with
    | str z => exact ⟨true, by decide +kernel, .inl ⟨rfl, z, rfl⟩⟩
    | _ => exact ⟨false, by decide +kernel, .inr ⟨rfl, fun z h => by cases h⟩⟩
  | _ => exact ⟨false, by decide +kernel, .inr ⟨rfl, fun z h => by cases h⟩⟩
theorem ok_is_name (T : Tx K mg) : Callee P w K mg base CX0 1 "is_name" ["value"] [] (sp_is_name K) := by
  refine mkCallee (fd_is_name T) (mg_is_name T) sc_is_name (fun _ _ _ _ _ _ us hl => match us, hl with | [_], _ => rfl) (fun vs H Q E h => ?_) (fun cdv A outer s H vs Q E hr h => ?_)
  · obtain ⟨x, t, rfl, _⟩ := h
    rfl
  · obtain ⟨x, t, rfl, ty, hlen, k⟩ := h
    obtain ⟨tk, gL⟩ := ms_LETTERS T
    obtain ⟨tk2, gN⟩ := mi_LONGEST_NAME T
    obtain ⟨a, e1, e2⟩ := kit_str2 ty
    have nd := sc_is_name.nd
    refine ⟨_, pss_cons (ps_if (PW.pt (pw_or (pt_not (pt_val (pe_callB call_isi (by rfl) (fr_isinstance T) (by decide +kernel) (pa_cons (pv 0) (pa_cons (pe_bltn (v := .ty "str") (by rfl) (fr_str T) (by decide +kernel) rfl) pa_nil)))))
        (pw_or1 (pt_not (pt_chain op_le op_le pe_int (pe_callB call_len_str (by rfl) (fr_len T) PySem.boot_len (pa_cons (pv 0) pa_nil)) (pe_glob (v := .int 8) (by rfl) gN ⟨_, rfl⟩)))))) (pss_one (ps_ret pe_bl)) pss_nil)
      (pss_one (ps_ret (pe_callB (cr_all rfl) (by rfl) (fr_all T) (by decide +kernel) (pa_cons (pe_lc (own := [("letter", 1)]) (g := gName 1) (tt := tYes) rfl nd (pi_str (pv 0)) (blkOk_by (N := ["value", "letter"]) (sc := defScope s_is_name) (by decide +kernel))
        (fun _ _ _ _ _ => pg_name (i := 1) nd rfl (Or.inl rfl)) (fun _ _ _ _ _ => pts_nil) (fun _ _ _ _ _ => pe_cmpR op_in_sign (pv 1) (pe_glob (v := .str letters) (by rfl) gL ⟨_, rfl⟩) (by rfl))) pa_nil)))), ?_⟩
    refine ⟨x, rfl, x, .ty "str", _, _, a, rfl, .ty "str", ty, kit_ty e1, _, rfl, ?_⟩
    rcases e2 with ⟨rfl, z, rfl⟩ | ⟨rfl, hz⟩
    · have hl := hlen z rfl
      refine iteF ⟨_, rfl, z, rfl, Nat.le_trans hl (by decide), _, _, rfl, rfl, decide ((1 : Int) ≤ (z.length : Int)), rfl, ?_⟩
      have e0 : isNm (.str z) = (decide ((1 : Int) ≤ (z.length : Int)) && (decide ((z.length : Int) ≤ 8) && z.cps.toList.all fun c => decide (c ∈ letters.cps.toList))) := by
        have a1 : decide (1 ≤ z.length) = decide ((1 : Int) ≤ (z.length : Int)) := by
          rw [decide_eq_decide]
          omega
        have a2 : decide (z.length ≤ 8) = decide ((z.length : Int) ≤ 8) := by
          rw [decide_eq_decide]
          omega
        show (decide (1 ≤ z.length) && (decide (z.length ≤ 8) && _)) = _
        rw [a1, a2]
      cases h1 : decide ((1 : Int) ≤ (z.length : Int)) with
      | false =>
        have e9 : isNm (.str z) = false := by
          rw [e0, h1]
          rfl
        rw [e9] at k
        exact iteF ⟨false, rfl, iteT (k H (Same.refl _))⟩
      | true =>
        refine iteT ⟨_, _, rfl, rfl, decide ((z.length : Int) ≤ 8), rfl, ?_⟩
        rw [h1] at e0
        cases h2 : decide ((z.length : Int) ≤ 8) with
        | false =>
          have e9 : isNm (.str z) = false := by
            rw [e0, h2]
            rfl
          rw [e9] at k
          exact iteT (k H (Same.refl _))
        | true =>
          rw [h2, Bool.true_and, Bool.true_and] at e0
          rw [e0] at k
          refine iteF (nxt ?_)
          dsimp only
          refine pl_r1 (tlc_S (fun c => .bl (decide (c ∈ letters.cps.toList))) z ?_ ?_ ?_ ?_ ?_)
          · exact fun R r => ⟨_, rfl, r⟩
          · exact Nat.le_trans hl (by decide)
          · exact fun x => rfl
          · exact fun c hc H' s' R r => ⟨_, rfl, c, letters, rfl, rfl, r H' (Same.refl _)⟩
          · intro D H' hD sD hD2
            refine ⟨D, z.cps.toList.map fun c => decide (c ∈ letters.cps.toList), rfl, sqL_of (by rw [List.map_map]; exact hD2), ?_⟩
            rw [List.all_map]
            exact k H' sD
    · have e0 : isNm x = false := by
        cases x with
        | str z => exact absurd rfl (hz z)
        | _ => rfl
      rw [e0] at k
      exact k H (Same.refl _)
/-! is_greatest -/
def isGr : V → Bool
  | .int i => decide (1 ≤ i) && decide (i ≤ 99)
  | _ => false
def sp_is_greatest (K : PySem.W.Frag) : Sp := fun vs H Q _ => ∃ (x : V) (t : String), vs = [x] ∧ TyX K H x (.type t) ∧ Q (.bl (isGr x)) H
theorem ok_is_greatest (T : Tx K mg) : Callee P w K mg base CX0 2 "is_greatest" ["value"] [] (sp_is_greatest K) := by
  have C1 := ok_is_whole (P := P) (w := w) (base := base) T
  refine mkCallee (fd_is_greatest T) (mg_is_greatest T) sc_is_greatest (fun _ _ _ _ _ _ us hl => match us, hl with | [_], _ => rfl) (fun vs H Q E h => ?_) (fun cdv A outer s H vs Q E hr h => ?_)
  · obtain ⟨x, t, rfl, _⟩ := h
    rfl
  · obtain ⟨x, t, rfl, ty, k⟩ := h
    obtain ⟨tk, gM⟩ := mi_MOST_GREATEST T
    refine ⟨_, pss_one (ps_ret (pe_and (pcall C1 hr (pa_cons (pv 0) pa_nil)) (pe_one (pe_chain op_le op_le pe_int (pv 0) (pe_glob (v := .int 99) (by rfl) gM ⟨_, rfl⟩))))), ?_⟩
    refine ⟨x, rfl, x, t, rfl, ty, _, rfl, ?_⟩
    cases x with
    | int i =>
      refine iteT ⟨_, rfl, _, _, rfl, rfl, _, rfl, ?_⟩
      have e : isGr (.int i) = (decide (1 ≤ i) && decide (i ≤ 99)) := rfl
      rw [e] at k
      cases h1 : decide (1 ≤ i) with
      | false =>
        rw [h1] at k
        exact k
      | true =>
        rw [h1] at k
        exact ⟨_, _, rfl, rfl, k⟩
    | _ => exact iteF k
/-! is_value -/
def isVal : V → Bool
  | .non => true
  | .int i => decide (0 ≤ i)
  | _ => false
def sp_is_value (K : PySem.W.Frag) : Sp := fun vs H Q _ => ∃ (x : V) (t : String), vs = [x] ∧ TyX K H x (.type t) ∧ Q (.bl (isVal x)) H
theorem ok_is_value (T : Tx K mg) : Callee P w K mg base CX0 2 "is_value" ["value"] [] (sp_is_value K) := by
  have C1 := ok_is_whole (P := P) (w := w) (base := base) T
  refine mkCallee (fd_is_value T) (mg_is_value T) sc_is_value (fun _ _ _ _ _ _ us hl => match us, hl with | [_], _ => rfl) (fun vs H Q E h => ?_) (fun cdv A outer s H vs Q E hr h => ?_)
  · obtain ⟨x, t, rfl, _⟩ := h
    rfl
  · obtain ⟨x, t, rfl, ty, k⟩ := h
    refine ⟨_, pss_one (ps_ret (pe_or (pe_cmpR op_isN (pv 0) pe_non (nomark _)) (pe_one (pe_and (pcall C1 hr (pa_cons (pv 0) pa_nil)) (pe_one (pe_cmpR op_ge (pv 0) pe_int (nomark _))))))), ?_⟩
    refine ⟨x, rfl, rfl, _, rfl, ?_⟩
    by_cases hx : x = .non
    · subst hx
      exact k
    · rw [decide_eq_false hx]
      refine iteF ⟨x, rfl, x, t, rfl, ty, _, rfl, ?_⟩
      cases x with
      | int i => exact ⟨_, rfl, _, _, rfl, rfl, k⟩
      | non => exact absurd rfl hx
      | _ => exact k
/-! is_within -/
def isIn (g : Int) : V → Bool
  | .non => true
  | .int i => decide (0 ≤ i) && decide (i ≤ g)
  | _ => false
def sp_is_within (K : PySem.W.Frag) : Sp := fun vs H Q _ => ∃ (x : V) (g : Int) (t : String), vs = [x, .int g] ∧ TyX K H x (.type t) ∧ Q (.bl (isIn g x)) H
theorem ok_is_within (T : Tx K mg) : Callee P w K mg base CX0 3 "is_within" ["value", "greatest"] [] (sp_is_within K) := by
  have C1 := ok_is_value (P := P) (w := w) (base := base) T
  refine mkCallee (fd_is_within T) (mg_is_within T) sc_is_within (fun _ _ _ _ _ _ us hl => match us, hl with | [_, _], _ => rfl) (fun vs H Q E h => ?_) (fun cdv A outer s H vs Q E hr h => ?_)
  · obtain ⟨x, g, t, rfl, _⟩ := h
    rfl
  · obtain ⟨x, g, t, rfl, ty, k⟩ := h
    refine ⟨_, pss_one (ps_ret (pe_and (pcall C1 hr (pa_cons (pv 0) pa_nil)) (pe_one (pe_or (pe_cmpR op_isN (pv 0) pe_non (nomark _)) (pe_one (pe_cmpR op_le (pv 0) (pv 1) (nomark _))))))), ?_⟩
    refine ⟨x, rfl, x, t, rfl, ty, _, rfl, ?_⟩
    cases x with
    | non => exact ⟨_, rfl, rfl, _, rfl, k⟩
    | int i =>
      by_cases hi : 0 ≤ i
      · have e : isVal (.int i) = true := decide_eq_true hi
        rw [e]
        refine ⟨_, rfl, rfl, _, rfl, ?_⟩
        refine ⟨_, rfl, _, rfl, _, _, rfl, rfl, ?_⟩
        have e2 : isIn g (.int i) = decide (i ≤ g) := by
          show (decide (0 ≤ i) && decide (i ≤ g)) = _
          rw [decide_eq_true hi, Bool.true_and]
        rw [e2] at k
        exact k
      · have e : isVal (.int i) = false := decide_eq_false hi
        rw [e]
        have e2 : isIn g (.int i) = false := by
          show (decide (0 ≤ i) && decide (i ≤ g)) = _
          rw [decide_eq_false hi, Bool.false_and]
        rw [e2] at k
        exact k
    | _ => exact k
/-! Column.__init__, where its parts fit -/
def colFs (n : Str) (g : Int) (d : V) (k : Int) : List (Str × V) := [("name", .str n), ("greatest", .int g), ("default", d), ("number", .int k)]
theorem colFs_eq (n : Str) (g : Int) (d : V) (k : Int) : putF "number" (.int k) (putF "default" d (putF "greatest" (.int g) (putF "name" (.str n) []))) = colFs n g d k := by
  have h1 : ¬ (("name" : Str) = "greatest") := by decide +kernel
  have h2 : ¬ (("name" : Str) = "default") := by decide +kernel
  have h3 : ¬ (("greatest" : Str) = "default") := by decide +kernel
  have h4 : ¬ (("name" : Str) = "number") := by decide +kernel
  have h5 : ¬ (("greatest" : Str) = "number") := by decide +kernel
  have h6 : ¬ (("default" : Str) = "number") := by decide +kernel
  simp only [putF, if_neg h1, if_neg h2, if_neg h3, if_neg h4, if_neg h5, if_neg h6]
  rfl
theorem put2 (n : Str) (g : Int) : putF "greatest" (.int g) (putF "name" (.str n) []) = ([("name", .str n), ("greatest", .int g)] : List (Str × V)) := by
  have h1 : ¬ (("name" : Str) = "greatest") := by decide +kernel
  simp only [putF, if_neg h1]
theorem put3 (n : Str) (g : Int) (d : V) : putF "default" d (putF "greatest" (.int g) (putF "name" (.str n) [])) = ([("name", .str n), ("greatest", .int g), ("default", d)] : List (Str × V)) := by
  have h2 : ¬ (("name" : Str) = "default") := by decide +kernel
  have h3 : ¬ (("greatest" : Str) = "default") := by decide +kernel
  rw [put2]
  simp only [putF, if_neg h2, if_neg h3]
theorem colFs_name {n : Str} {g : Int} {d : V} {k : Int} : (colFs n g d k).lookup ("name" : Str) = some (.str n) := by
  unfold colFs
  simp [List.lookup]
theorem colFs_greatest {n : Str} {g : Int} {d : V} {k : Int} : (colFs n g d k).lookup ("greatest" : Str) = some (.int g) := by
  have h1 : (("greatest" : Str) == "name") = false := by decide +kernel
  unfold colFs
  simp [List.lookup, h1]
theorem colFs_default {n : Str} {g : Int} {d : V} {k : Int} : (colFs n g d k).lookup ("default" : Str) = some d := by
  have h1 : (("default" : Str) == "name") = false := by decide +kernel
  have h2 : (("default" : Str) == "greatest") = false := by decide +kernel
  unfold colFs
  simp [List.lookup, h1, h2]
theorem colFs_number {n : Str} {g : Int} {d : V} {k : Int} : (colFs n g d k).lookup ("number" : Str) = some (.int k) := by
  have h1 : (("number" : Str) == "name") = false := by decide +kernel
  have h2 : (("number" : Str) == "greatest") = false := by decide +kernel
  have h3 : (("number" : Str) == "default") = false := by decide +kernel
  unfold colFs
  simp [List.lookup, h1, h2, h3]
/-- a Column stands at c -/
def ColAt (K : PySem.W.Frag) (H : Hp) (c : Addr) (n : Str) (g : Int) (d : V) (k : Int) : Prop := ∃ dx, H c = some (.ins (He.ga K "Column") dx (colFs n g d k))
def sp_Col_init (K : PySem.W.Frag) : Sp := fun vs H Q _ => ∃ (c dx : Addr) (n : Str) (g k : Int) (d : V), vs = [.ref c, .str n, .int g, d, .int k] ∧ H c = some (.ins (He.ga K "Column") dx []) ∧ isNm (.str n) = true ∧ isGr (.int g) = true ∧ isIn g d = true ∧ 0 ≤ k ∧
  ∀ H', ColAt K H' c n g d k → (∀ b o, b ≠ c → H b = some o → H' b = some o) → Q .non H'
theorem nm_len {n : Str} (h : isNm (.str n) = true) : n.length ≤ 1000 := by
  have h' : (decide (1 ≤ n.length) && (decide (n.length ≤ 8) && _)) = true := h
  rw [Bool.and_eq_true, Bool.and_eq_true] at h'
  have := of_decide_eq_true h'.2.1
  omega
theorem ok_Col_init (T : Tx K mg) : ∃ fd, FnOk P w K mg base CX0 4 (He.ma K (He.ga K "Column") "__init__") fd ["self", "name", "greatest", "default", "number"] (sp_Col_init K) ∧
    FunD K "__init__" "Column.__init__" (defArgs s_Column___init__) (defBody s_Column___init__) (defScope s_Column___init__) (d_Column___init__.dvs K) (d_Column___init__.kws K) (He.ma K (He.ga K "Column") "__init__") fd := by
  have C1 := (ok_is_name (P := P) (w := w) (base := base) T).up (show 1 ≤ 3 by decide)
  have C2 := (ok_is_greatest (P := P) (w := w) (base := base) T).up (show 2 ≤ 3 by decide)
  have C3 := ok_is_within (P := P) (w := w) (base := base) T
  have C4 := (ok_is_whole (P := P) (w := w) (base := base) T).up (show 1 ≤ 3 by decide)
  obtain ⟨fd, F⟩ := fd_Column___init__ T
  refine ⟨fd, F.ok (CX := CX0) sc_Column___init__ (fun vs H Q E h => ?_) (fun cdv A outer s H vs Q E hr h => ?_), F⟩
  · obtain ⟨c, dx, n, g, k, d, rfl, _⟩ := h
    rfl
  suffices hh : ∃ t, PSs (cxOf CX0 P w K mg base ["self", "name", "greatest", "default", "number"] "Column.__init__" (defScope s_Column___init__) (He.ma K (He.ga K "Column") "__init__") cdv A outer s H E).nox (defBody s_Column___init__) t ∧
      t { nx := fun _ H' => Q .non H', rt := Q } (start ["self", "name", "greatest", "default", "number"] vs) H by
    obtain ⟨t, h1, h2⟩ := hh
    exact ⟨t, h1.nox, h2⟩
  obtain ⟨c, dx, n, g, k, d, rfl, hc, hn, hg, hd, hk, kk⟩ := h
  have cl := cl_Column T
  refine ⟨_, pss_cons (ps_if (pt_not (pt_val (pcall C1 hr (pa_cons (pv 1) pa_nil)))) (pss_one ps_never) pss_nil)
    (pss_cons (ps_if (pt_not (pt_val (pcall C2 hr (pa_cons (pv 2) pa_nil)))) (pss_one ps_never) pss_nil)
    (pss_cons (ps_if (pt_not (pt_val (pcall C3 hr (pa_cons (pv 3) (pa_cons (pv 2) pa_nil))))) (pss_one ps_never) pss_nil)
    (pss_cons (ps_if (PW.pt (pw_or (pt_not (pt_val (pcall C4 hr (pa_cons (pv 4) pa_nil)))) (pw_or1 (pt_cmpR op_lt (pv 4) pe_int (nomark _))))) (pss_one ps_never) pss_nil)
    (pss_cons (ps_fld (pv 0) (pv 1) rfl) (pss_cons (ps_fld (pv 0) (pv 2) rfl) (pss_cons (ps_fld (pv 0) (pv 3) rfl) (pss_one (ps_fld (pv 0) (pv 4) rfl)))))))), ?_⟩
  have td : ∃ t, ∀ H : Hp, TyX K H d (.type t) := by
    cases d with
    | non => exact ⟨_, fun _ => .base .non⟩
    | int i => exact ⟨_, fun _ => .base (.int i)⟩
    | _ => cases hd
  obtain ⟨t, td⟩ := td
  refine ⟨_, rfl, .str n, _, rfl, .base (.str n), fun m e => by cases e; exact nm_len hn, fun H1 s1 => ⟨_, rfl, ?_⟩⟩
  rw [hn]
  refine iteF ⟨_, rfl, .int g, _, rfl, .base (.int g), _, rfl, ?_⟩
  rw [hg]
  refine iteF ⟨_, rfl, _, rfl, d, g, _, rfl, td _, _, rfl, ?_⟩
  rw [hd]
  refine iteF ⟨_, rfl, .int k, _, rfl, .base (.int k), _, rfl, iteF ⟨_, rfl, _, _, rfl, rfl, _, rfl, ?_⟩⟩
  rw [decide_eq_false (show ¬ k < 0 by omega)]
  refine iteF ?_
  have hc1 := s1 _ _ hc
  refine ⟨_, rfl, _, rfl, c, _, dx, _, rfl, hc1, cl, na_Column_name T, (by show 0 < 1000; decide), ?_⟩
  refine ⟨_, rfl, _, rfl, c, _, dx, _, rfl, upd_same, cl, na_Column_greatest T, (by show 1 < 1000; decide), ?_⟩
  refine ⟨_, rfl, _, rfl, c, _, dx, _, rfl, upd_same, cl, na_Column_default T, (by rw [put2]; show 2 < 1000; decide), ?_⟩
  refine ⟨_, rfl, _, rfl, c, _, dx, _, rfl, upd_same, cl, na_Column_number T, (by rw [put3]; show 3 < 1000; decide), ?_⟩
  refine kk _ ⟨dx, ?_⟩ fun b o hb e => by rw [upd_ne hb, upd_ne hb, upd_ne hb, upd_ne hb]; exact s1 _ _ e
  rw [upd_same, colFs_eq]
/-- Column(name, greatest, default) -/
theorem binds_Col3 (T : Tx K mg) {fd : FuncData} (F : FunD K "__init__" "Column.__init__" (defArgs s_Column___init__) (defBody s_Column___init__) (defScope s_Column___init__) (d_Column___init__.dvs K) (d_Column___init__.kws K) (He.ma K (He.ga K "Column") "__init__") fd) :
    ∃ ds, Vals [V.int 0] ds ∧ Binds K fd ["self", "name", "greatest", "default", "number"] ds := by
  have h := F.binds (ps := ["self", "name", "greatest", "default", "number"]) 4 1 (by intro z; cases z) rfl (fun TT D doc pm an cdv ct us its ks h1 h2 h3 => ?_) (by intro z; cases z)
  · exact h
  · match us, h1, its, h2, ks, h3 with
    | [u0, u1, u2, u3], _, [i0], _, [k0], _ => exact ⟨_, rfl, _, _, _, _, _, _, rfl, rfl, rfl⟩
/-! Column.changed, where the part fits -/
def put (part : Str) (v : V) (n : V) (g : V) (d : V) (k : V) : List (Key × V) := putK ([(Sum.inr "name", n), (Sum.inr "greatest", g), (Sum.inr "default", d), (Sum.inr "number", k)] : List (Key × V)) (Sum.inr part) v
/-- what stands under the four names behind it -/
structure Four (part : Str) (v n g d k n' g' d' k' : V) : Prop where
  part_ : part = "name" ∨ part = "greatest" ∨ part = "default" ∨ part = "number"
  eq : (n', g', d', k') = (if part = "name" then (v, g, d, k) else if part = "greatest" then (n, v, d, k) else if part = "default" then (n, g, v, k) else (n, g, d, v))
theorem merge4 (x y z u : V) : mergeK [] [(Sum.inr "name", x), (Sum.inr "greatest", y), (Sum.inr "default", z), (Sum.inr "number", u)] = ([(Sum.inr "name", x), (Sum.inr "greatest", y), (Sum.inr "default", z), (Sum.inr "number", u)] : List (Key × V)) := by
  have h1 : ¬ ((Sum.inr "name" : Key) = (Sum.inr "greatest" : Key)) := by decide +kernel
  have h2 : ¬ ((Sum.inr "name" : Key) = (Sum.inr "default" : Key)) := by decide +kernel
  have h3 : ¬ ((Sum.inr "name" : Key) = (Sum.inr "number" : Key)) := by decide +kernel
  have h4 : ¬ ((Sum.inr "greatest" : Key) = (Sum.inr "default" : Key)) := by decide +kernel
  have h5 : ¬ ((Sum.inr "greatest" : Key) = (Sum.inr "number" : Key)) := by decide +kernel
  have h6 : ¬ ((Sum.inr "default" : Key) = (Sum.inr "number" : Key)) := by decide +kernel
  simp [mergeK, putK, h1, h2, h3, h4, h5, h6]
theorem put_get {part : Str} {v n g d k n' g' d' k' : V} (f : Four part v n g d k n' g' d' k') : valV (put part v n g d k) (Sum.inr "name") = some n' ∧ valV (put part v n g d k) (Sum.inr "greatest") = some g' ∧ valV (put part v n g d k) (Sum.inr "default") = some d' ∧ valV (put part v n g d k) (Sum.inr "number") = some k' := by
  have h1 : ¬ ((Sum.inr "name" : Key) = (Sum.inr "greatest" : Key)) := by decide +kernel
  have h2 : ¬ ((Sum.inr "name" : Key) = (Sum.inr "default" : Key)) := by decide +kernel
  have h3 : ¬ ((Sum.inr "name" : Key) = (Sum.inr "number" : Key)) := by decide +kernel
  have h4 : ¬ ((Sum.inr "greatest" : Key) = (Sum.inr "default" : Key)) := by decide +kernel
  have h5 : ¬ ((Sum.inr "greatest" : Key) = (Sum.inr "number" : Key)) := by decide +kernel
  have h6 : ¬ ((Sum.inr "default" : Key) = (Sum.inr "number" : Key)) := by decide +kernel
  have k1 : ¬ ((Sum.inr "greatest" : Key) = (Sum.inr "name" : Key)) := by decide +kernel
  have k2 : ¬ ((Sum.inr "default" : Key) = (Sum.inr "name" : Key)) := by decide +kernel
  have k3 : ¬ ((Sum.inr "number" : Key) = (Sum.inr "name" : Key)) := by decide +kernel
  have k4 : ¬ ((Sum.inr "default" : Key) = (Sum.inr "greatest" : Key)) := by decide +kernel
  have k5 : ¬ ((Sum.inr "number" : Key) = (Sum.inr "greatest" : Key)) := by decide +kernel
  have k6 : ¬ ((Sum.inr "number" : Key) = (Sum.inr "default" : Key)) := by decide +kernel
  have g1 : ¬ (("greatest" : Str) = "name") := by decide +kernel
  have g2 : ¬ (("default" : Str) = "name") := by decide +kernel
  have g3 : ¬ (("default" : Str) = "greatest") := by decide +kernel
  have g4 : ¬ (("number" : Str) = "name") := by decide +kernel
  have g5 : ¬ (("number" : Str) = "greatest") := by decide +kernel
  have g6 : ¬ (("number" : Str) = "default") := by decide +kernel
  have e := f.eq
  rcases f.part_ with rfl | rfl | rfl | rfl
  · rw [if_pos rfl] at e
    cases e
    simp [put, putK, valV, h1, h2, h3, h4, h5, h6, k1, k2, k3, k4, k5, k6]
  · rw [if_neg g1, if_pos rfl] at e
    cases e
    simp [put, putK, valV, h1, h2, h3, h4, h5, h6, k1, k2, k3, k4, k5, k6]
  · rw [if_neg g2, if_neg g3, if_pos rfl] at e
    cases e
    simp [put, putK, valV, h1, h2, h3, h4, h5, h6, k1, k2, k3, k4, k5, k6]
  · rw [if_neg g4, if_neg g5, if_neg g6] at e
    cases e
    simp [put, putK, valV, h1, h2, h3, h4, h5, h6, k1, k2, k3, k4, k5, k6]
/-- Column(name, greatest, default, number=..) -/
theorem kbinds_Col (T : Tx K mg) {fd : FuncData} (F : FunD K "__init__" "Column.__init__" (defArgs s_Column___init__) (defBody s_Column___init__) (defScope s_Column___init__) (d_Column___init__.dvs K) (d_Column___init__.kws K) (He.ma K (He.ga K "Column") "__init__") fd) :
    ∃ its mv : List Value, KBn K fd ["self", "name", "greatest", "default", "number"] 4 ["number"] (fun us ws => us ++ ws) (fun vs zs => vs ++ zs) := by
  have h := F.kbinds (ps := ["self", "name", "greatest", "default", "number"]) 4 ["number"] [] (fun us its mv ws => us ++ ws) (by intro z; cases z) (by intro z; cases z) (by intro q hq; cases hq) (fun r1 _ _ r4 => r1.append r4) (fun TT D doc pm an cdv ct us its mv ws h1 h2 h3 h4 => ?_)
  · exact h
  · match us, h1, its, h2, mv, h3, ws, h4 with
    | [u0, u1, u2, u3], _, [i0], _, [], _, [w0], _ => exact ⟨_, rfl, rfl⟩
def sp_changed (K : PySem.W.Frag) : Sp := fun vs H Q _ => ∃ (c : Addr) (part n n' : Str) (g k g' k' : Int) (d d' v : V), vs = [.ref c, .str part, v] ∧ ColAt K H c n g d k ∧ Four part v (.str n) (.int g) d (.int k) (.str n') (.int g') d' (.int k') ∧
  isNm (.str n') = true ∧ isGr (.int g') = true ∧ isIn g' d' = true ∧ 0 ≤ k' ∧ ∀ (a : Addr) (H' : Hp), H a = none → Same H H' → ColAt K H' a n' g' d' k' → Q (.ref a) H'
theorem ok_changed (T : Tx K mg) : ∃ fd, FnOk P w K mg base CX0 6 (He.ma K (He.ga K "Column") "changed") fd ["self", "part", "value"] (sp_changed K) ∧ Binds K fd ["self", "part", "value"] [] := by
  obtain ⟨fdI, GI, FI⟩ := ok_Col_init (P := P) (w := w) (base := base) T
  obtain ⟨_, _, kb⟩ := kbinds_Col T FI
  obtain ⟨fd, F⟩ := fd_Column_changed T
  have cl := cl_Column T
  refine ⟨fd, F.ok (CX := CX0) sc_Column_changed (fun vs H Q E h => ?_) (fun cdv A outer s H vs Q E hr h => ?_), F.bindsN fun _ _ _ _ _ _ us hl => match us, hl with | [_, _, _], _ => rfl⟩
  · obtain ⟨c, part, n, n', g, k, g', k', d, d', v, rfl, _⟩ := h
    rfl
  suffices hh : ∃ t, PSs (cxOf CX0 P w K mg base ["self", "part", "value", "parts"] "Column.changed" (defScope s_Column_changed) (He.ma K (He.ga K "Column") "changed") cdv A outer s H E).nox (defBody s_Column_changed) t ∧
      t { nx := fun _ H' => Q .non H', rt := Q } (start ["self", "part", "value", "parts"] vs) H by
    obtain ⟨t, h1, h2⟩ := hh
    exact ⟨t, h1.nox, h2⟩
  obtain ⟨c, part, n, n', g, k, g', k', d, d', v, rfl, ⟨dx, hc⟩, f4, hn, hg, hd, hk, kk⟩ := h
  have nd := sc_Column_changed.nd
  have hu := hu_of hr
  have CW := (ok_is_word (P := P) (w := w) (base := base) T).up (show 1 ≤ 5 by decide)
  refine ⟨_, pss_cons (ps_if (pt_not (pt_val (pcall CW hr (pa_cons (pv 1) (pa_cons (pe_glob (v := .ref (He.ga K "PARTS")) (by rfl) (mg_PARTS T) rfl) pa_nil))))) (pss_one ps_never) pss_nil)
    (pss_cons (ps_set (i := 3) nd rfl (Or.inl rfl) (pe_disp (pps_cons pe_str (pe_fld (pv 0) rfl) (pps_cons pe_str (pe_fld (pv 0) rfl) (pps_cons pe_str (pe_fld (pv 0) rfl) (pps_cons pe_str (pe_fld (pv 0) rfl) pps_nil)))) (by rfl) (by rfl) (fun z => by cases z) (by decide)))
    (pss_cons (ps_dput hu (pv 3) (pv 1) (pv 2) rfl)
    (pss_one (ps_ret (pe_makeK (mk_Column T) GI hr (by rfl) (mg_Column T) kb pass0 (pa_cons (pe_dget hu (pv 3) pe_str (fun _ _ => rfl)) (pa_cons (pe_dget hu (pv 3) pe_str (fun _ _ => rfl)) (pa_cons (pe_dget hu (pv 3) pe_str (fun _ _ => rfl)) pa_nil)))
      (pk_cons (pe_dget hu (pv 3) pe_str (fun _ _ => rfl)) pk_nil)))))), ?_⟩
  have hP : SqT K H (He.ga K "PARTS") [.str "name", .str "greatest", .str "default", .str "number"] := He.tupB_ok (ex_PARTS T) H
  have hin : wordV (.str part) [.str "name", .str "greatest", .str "default", .str "number"] = true := by
    rcases f4.part_ with rfl | rfl | rfl | rfl <;> decide +kernel
  refine ⟨_, rfl, .str part, _, _, _, rfl, .base (.str part), hP, rfl, _, rfl, ?_⟩
  rw [hin]
  refine iteF (nxt ?_)
  refine fun p np => ?_
  have hc1 : ∀ o, upd H p o c = some (.ins (He.ga K "Column") dx (colFs n g d k)) := fun o => same_new np _ _ hc
  refine ⟨_, rfl, c, _, dx, _, _, rfl, hc1 _, cl, na_Column_name T, colFs_name, _, rfl, c, _, dx, _, _, rfl, hc1 _, cl, na_Column_greatest T, colFs_greatest, _, rfl, c, _, dx, _, _, rfl, hc1 _, cl, na_Column_default T, colFs_default,
    _, rfl, c, _, dx, _, _, rfl, hc1 _, cl, na_Column_number T, colFs_number, upd_same, [(Sum.inr "name", .str n), (Sum.inr "greatest", .int g), (Sum.inr "default", d), (Sum.inr "number", .int k)], rfl, (by show 4 ≤ 15; decide), ?_⟩
  rw [upd_upd, merge4]
  refine ⟨_, rfl, _, rfl, _, rfl, p, _, rfl, DPut.k (k := Sum.inr part) upd_same (by show 4 < sizeLine; decide), ?_⟩
  rw [upd_upd]
  obtain ⟨q1, q2, q3, q4⟩ := put_get f4
  have hp : upd H p (.dK (put part v (.str n) (.int g) d (.int k))) p = some (.dK (put part v (.str n) (.int g) d (.int k))) := upd_same
  have s1 : Same H (upd H p (.dK (put part v (.str n) (.int g) d (.int k)))) := same_new np
  have g1 : DGet (upd H p (.dK (put part v (.str n) (.int g) d (.int k)))) p (.str "name") (some (.str n')) := by
    rw [← q1]
    exact DGet.k (k := Sum.inr "name") hp
  have g2 : DGet (upd H p (.dK (put part v (.str n) (.int g) d (.int k)))) p (.str "greatest") (some (.int g')) := by
    rw [← q2]
    exact DGet.k (k := Sum.inr "greatest") hp
  have g3 : DGet (upd H p (.dK (put part v (.str n) (.int g) d (.int k)))) p (.str "default") (some d') := by
    rw [← q3]
    exact DGet.k (k := Sum.inr "default") hp
  have g4 : DGet (upd H p (.dK (put part v (.str n) (.int g) d (.int k)))) p (.str "number") (some (.int k')) := by
    rw [← q4]
    exact DGet.k (k := Sum.inr "number") hp
  refine ⟨_, rfl, p, _, rfl, g1, _, rfl, p, _, rfl, g2, _, rfl, p, _, rfl, g3, _, rfl, p, _, rfl, g4, rfl, rfl, fun x dx2 nx ndx ndc => ?_⟩
  refine ⟨x, dx2, n', g', k', d', rfl, upd_same, hn, hg, hd, hk, fun H4 hc4 k4 => ⟨rfl, ?_⟩⟩
  exact kk x H4 (s1.free nx) (fun b o e => k4 b o (ne_of_none (s1 _ _ e) nx) (by rw [upd_ne (ne_of_none (s1 _ _ e) nx), upd_ne (ne_of_none (s1 _ _ e) ndx)]; exact s1 _ _ e)) hc4
/-! column_named; the columns of a list, as data -/
structure Col where
  name : Str
  top : Int
  dflt : V
  num : Int
/-- the columns at the addresses as -/
inductive Cols (K : PySem.W.Frag) (H : Hp) : List Addr → List Col → Prop
  | nil : Cols K H [] []
  | cons {a : Addr} {as : List Addr} {c : Col} {cs : List Col} : ColAt K H a c.name c.top c.dflt c.num → Cols K H as cs → Cols K H (a :: as) (c :: cs)
theorem ColAt.keep {K : PySem.W.Frag} {H H' : Hp} {a : Addr} {n : Str} {g k : Int} {d : V} (s : Same H H') (h : ColAt K H a n g d k) : ColAt K H' a n g d k := h.imp fun _ e => s _ _ e
theorem Cols.keep {K : PySem.W.Frag} {H H' : Hp} (s : Same H H') : ∀ {as : List Addr} {cs : List Col}, Cols K H as cs → Cols K H' as cs
  | _, _, .nil => .nil
  | _, _, .cons h t => .cons (h.keep s) (t.keep s)
theorem Cols.len {K : PySem.W.Frag} {H : Hp} : ∀ {as : List Addr} {cs : List Col}, Cols K H as cs → as.length = cs.length
  | _, _, .nil => rfl
  | _, _, .cons _ t => congrArg Nat.succ t.len
theorem Cols.at_ {K : PySem.W.Frag} {H : Hp} : ∀ {as : List Addr} {cs : List Col} {i : Nat} {a : Addr}, Cols K H as cs → as[i]? = some a → ∃ c, cs[i]? = some c ∧ ColAt K H a c.name c.top c.dflt c.num
  | _, _, _, _, .nil, e => by simp at e
  | _, _, 0, _, .cons h t, e => by
    simp at e
    subst e
    exact ⟨_, rfl, h⟩
  | _, _, i + 1, a, .cons h t, e => by
    obtain ⟨c, h1, h2⟩ := Cols.at_ (i := i) (a := a) t (by simpa using e)
    exact ⟨c, by simpa using h1, h2⟩
def isN (n : Str) (c : Col) : Bool := decide (c.name = n)
/-- what column_named gives: None, or the first of its name -/
def Named (as : List Addr) (cs : List Col) (n : Str) (v : V) : Prop := (v = .non ∧ cs.find? (isN n) = none) ∨ ∃ (i : Nat) (a : Addr) (c : Col), v = .ref a ∧ as[i]? = some a ∧ cs[i]? = some c ∧ cs.find? (isN n) = some c
def sp_column_named (K : PySem.W.Frag) : Sp := fun vs H Q _ => ∃ (l : Addr) (as : List Addr) (cs : List Col) (n : Str), vs = [.ref l, .str n] ∧ (SqL K H l (as.map V.ref) ∨ SqT K H l (as.map V.ref)) ∧ Cols K H as cs ∧ ∀ v, Named as cs n v → Q v H
theorem find_pre {cs : List Col} {i : Nat} {c : Col} {n : Str} (h : cs[i]? = some c) (hp : (cs.take i).find? (isN n) = none) : (cs.take (i + 1)).find? (isN n) = if isN n c = true then some c else none := by
  rw [List.take_add_one, h, List.find?_append, hp]
  show (Option.none).or _ = _
  rw [Option.none_or]
  show (match isN n c with | true => some c | false => none) = _
  cases isN n c <;> rfl
theorem find_take {cs : List Col} {i : Nat} {c : Col} {n : Str} (h : cs[i]? = some c) (hp : (cs.take i).find? (isN n) = none) (hc : isN n c = true) : cs.find? (isN n) = some c := by
  have e : cs = cs.take (i + 1) ++ cs.drop (i + 1) := (List.take_append_drop _ _).symm
  rw [e, List.find?_append, find_pre h hp, if_pos hc]
  rfl
theorem ok_column_named (T : Tx K mg) : Callee P w K mg base CX0 1 "column_named" ["columns", "name"] [] (sp_column_named K) := by
  refine mkCallee (fd_column_named T) (mg_column_named T) sc_column_named (fun _ _ _ _ _ _ us hl => match us, hl with | [_, _], _ => rfl) (fun vs H Q E h => ?_) (fun cdv A outer s H vs Q E hr h => ?_)
  · obtain ⟨l, as, cs, n, rfl, _⟩ := h
    rfl
  · obtain ⟨l, as, cs, n, rfl, hl, hc, k⟩ := h
    have nd := sc_column_named.nd
    have turn : ∀ (i : Nat) (x : V) (y : Option V), (as.map V.ref)[i]? = some x → (cs.take i).find? (isN n) = none → ∃ (a : Addr) (c : Col) (dx : Addr), x = .ref a ∧ as[i]? = some a ∧ cs[i]? = some c ∧ H a = some (.ins (He.ga K "Column") dx (colFs c.name c.top c.dflt c.num)) := fun i x y hx hp => by
      rw [List.getElem?_map] at hx
      cases ha : as[i]? with
      | none =>
        rw [ha] at hx
        cases hx
      | some a =>
        rw [ha] at hx
        obtain ⟨c, h1, dx, h2⟩ := hc.at_ ha
        exact ⟨a, c, dx, (Option.some.inj hx).symm, rfl, h1, h2⟩
    have fin : (cs.take as.length).find? (isN n) = none → Q .non H := fun h => by
      rw [hc.len, List.take_length] at h
      exact k _ (.inl ⟨rfl, h⟩)
    rcases hl with hl | hl
    · refine ⟨_, pss_cons (ps_if (pt_not (pt_val (pe_callB call_isi (by rfl) (fr_isinstance T) (by decide +kernel) (pa_cons (pv 1) (pa_cons (pe_bltn (v := .ty "str") (by rfl) (fr_str T) (by decide +kernel) rfl) pa_nil))))) (pss_one (ps_ret pe_non)) pss_nil)
        (pss_cons (ps_for PassesOwn.never rfl (pi_list (pv 0)) (pg_name (i := 2) nd rfl (Or.inl rfl)) (pss_one (ps_if (pt_cmpR op_eq (pe_fld (pv 2) rfl) (pv 1) (nomark _)) (pss_one (ps_ret (pv 2))) pss_nil))) (pss_one (ps_ret pe_non))), ?_⟩
      refine ⟨_, rfl, .str n, .ty "str", _, _, true, rfl, .ty "str", .base (.str n), kit_ty (by decide +kernel), _, rfl, iteF ⟨_, rfl, l, rfl, ⟨_, hl⟩, ?_⟩⟩
      refine for_list (xs := as.map V.ref) (fun i σ H' => H' = H ∧ (cs.take i).find? (isN n) = none ∧ ∃ y, σ = [some (.ref l), some (.str n), y]) ⟨rfl, rfl, _, rfl⟩ (fun i σ H' _ h => by rw [h.1]; exact hl) ?_ ?_
      · rintro i x σ H' hx ⟨rfl, hp, y, rfl⟩
        obtain ⟨a, c, dx, rfl, ha, hci, hat⟩ := turn i x y hx hp
        refine ⟨_, rfl, a, _, dx, _, _, rfl, hat, cl_Column T, na_Column_name T, colFs_name, _, rfl, rfl, _, rfl, ?_⟩
        by_cases e : c.name = n
        · rw [decide_eq_true (show V.str c.name = V.str n by rw [e])]
          exact iteT ⟨_, rfl, k _ (.inr ⟨i, a, c, rfl, ha, hci, find_take hci hp (decide_eq_true e)⟩)⟩
        · rw [decide_eq_false (fun z => e (V.str.inj z))]
          exact iteF ⟨rfl, by rw [find_pre hci hp, if_neg (by rw [show isN n c = false from decide_eq_false e]; decide)], _, rfl⟩
      · rintro σ H' ⟨rfl, hp, y, rfl⟩
        rw [List.length_map] at hp
        exact fin hp
    · refine ⟨_, pss_cons (ps_if (pt_not (pt_val (pe_callB call_isi (by rfl) (fr_isinstance T) (by decide +kernel) (pa_cons (pv 1) (pa_cons (pe_bltn (v := .ty "str") (by rfl) (fr_str T) (by decide +kernel) rfl) pa_nil))))) (pss_one (ps_ret pe_non)) pss_nil)
        (pss_cons (ps_for PassesOwn.never rfl (pi_tup (pv 0)) (pg_name (i := 2) nd rfl (Or.inl rfl)) (pss_one (ps_if (pt_cmpR op_eq (pe_fld (pv 2) rfl) (pv 1) (nomark _)) (pss_one (ps_ret (pv 2))) pss_nil))) (pss_one (ps_ret pe_non))), ?_⟩
      refine ⟨_, rfl, .str n, .ty "str", _, _, true, rfl, .ty "str", .base (.str n), kit_ty (by decide +kernel), _, rfl, iteF ⟨_, rfl, l, rfl, ⟨_, hl⟩, ?_⟩⟩
      refine for_tup (xs := as.map V.ref) (fun i σ H' => H' = H ∧ (cs.take i).find? (isN n) = none ∧ ∃ y, σ = [some (.ref l), some (.str n), y]) ⟨rfl, rfl, _, rfl⟩ (fun i σ H' _ h => by rw [h.1]; exact hl) ?_ ?_
      · rintro i x σ H' hx ⟨rfl, hp, y, rfl⟩
        obtain ⟨a, c, dx, rfl, ha, hci, hat⟩ := turn i x y hx hp
        refine ⟨_, rfl, a, _, dx, _, _, rfl, hat, cl_Column T, na_Column_name T, colFs_name, _, rfl, rfl, _, rfl, ?_⟩
        by_cases e : c.name = n
        · rw [decide_eq_true (show V.str c.name = V.str n by rw [e])]
          exact iteT ⟨_, rfl, k _ (.inr ⟨i, a, c, rfl, ha, hci, find_take hci hp (decide_eq_true e)⟩)⟩
        · rw [decide_eq_false (fun z => e (V.str.inj z))]
          exact iteF ⟨rfl, by rw [find_pre hci hp, if_neg (by rw [show isN n c = false from decide_eq_false e]; decide)], _, rfl⟩
      · rintro σ H' ⟨rfl, hp, y, rfl⟩
        rw [List.length_map] at hp
        exact fin hp
/-! the changes as data -/
inductive Ch where
  | add (n : Str) (g : Int) (d : V)
  | drop (n : Str)
  | rename (n m : Str)
  | dflt (n : Str) (v : V)
  | great (n : Str) (g : Int) (way : Str)
  | fill (n : Str) (i : Int)
def Ch.toV : Ch → List V
  | .add n g d => [.str "add", .str n, .int g, d]
  | .drop n => [.str "drop", .str n]
  | .rename n m => [.str "rename", .str n, .str m]
  | .dflt n v => [.str "default", .str n, v]
  | .great n g way => [.str "greatest", .str n, .int g, .str way]
  | .fill n i => [.str "fill", .str n, .int i]
def isWy (z : Str) : Bool := decide (z = "cut") || (decide (z = "none") || decide (z = "refuse"))
/-- a change by its form -/
def Ch.fits : Ch → Bool
  | .add n g d => isNm (.str n) && (isGr (.int g) && isVal d)
  | .drop n => isNm (.str n)
  | .rename n m => isNm (.str n) && isNm (.str m)
  | .dflt n v => isNm (.str n) && isVal v
  | .great n g way => isNm (.str n) && (isGr (.int g) && isWy way)
  | .fill n i => isNm (.str n) && decide (0 ≤ i)
def Ch.name : Ch → Str
  | .add n _ _ => n
  | .drop n => n
  | .rename n _ => n
  | .dflt n _ => n
  | .great n _ _ => n
  | .fill n _ => n
def Ch.kind : Ch → Str
  | .add _ _ _ => "add"
  | .drop _ => "drop"
  | .rename _ _ => "rename"
  | .dflt _ _ => "default"
  | .great _ _ _ => "greatest"
  | .fill _ _ => "fill"
theorem Ch.at0 (c : Ch) : atI c.toV 0 = some (.str c.kind) := by cases c <;> rfl
theorem Ch.at1 (c : Ch) : atI c.toV 1 = some (.str c.name) := by cases c <;> rfl
/-! is_way -/
def sp_is_way : Sp := fun vs H Q _ => ∃ z : Str, vs = [.str z] ∧ isWy z = true ∧ Q (.bl true) H
theorem ok_is_way (T : Tx K mg) : Callee P w K mg base CX0 2 "is_way" ["value"] [] sp_is_way := by
  have C1 := ok_is_word (P := P) (w := w) (base := base) T
  refine mkCallee (fd_is_way T) (mg_is_way T) sc_is_way (fun _ _ _ _ _ _ us hl => match us, hl with | [_], _ => rfl) (fun vs H Q E h => ?_) (fun cdv A outer s H vs Q E hr h => ?_)
  · obtain ⟨z, rfl, _⟩ := h
    rfl
  · obtain ⟨z, rfl, hz, k⟩ := h
    refine ⟨_, pss_one (ps_ret (pcall C1 hr (pa_cons (pv 0) (pa_cons (pe_glob (v := .ref (He.ga K "WAYS")) (by rfl) (mg_WAYS T) rfl) pa_nil)))), ?_⟩
    have hw : SqT K H (He.ga K "WAYS") [.str "cut", .str "none", .str "refuse"] := He.tupB_ok (ex_WAYS T) H
    refine ⟨_, rfl, .str z, _, _, _, rfl, .base (.str z), hw, rfl, ?_⟩
    have e : wordV (.str z) [.str "cut", .str "none", .str "refuse"] = true := by
      have h' : (decide (z = "cut") || (decide (z = "none") || decide (z = "refuse"))) = true := hz
      show (("cut" : Str) == z || (("none" : Str) == z || (("refuse" : Str) == z || false))) = true
      rw [Bool.or_eq_true, Bool.or_eq_true, decide_eq_true_iff, decide_eq_true_iff, decide_eq_true_iff] at h'
      rcases h' with rfl | rfl | rfl <;> simp
    rw [e]
    exact k
/-! is_single_part, at what fits -/
def sp_is_single_part : Sp := fun vs H Q _ => ∃ (kd : Str) (x : V), vs = [.str kd, x] ∧ ((kd = "rename" ∧ isNm x = true) ∨ (kd = "default" ∧ isVal x = true) ∨ (kd = "fill" ∧ ∃ i, x = .int i ∧ 0 ≤ i)) ∧ ∀ H', Same H H' → Q (.bl true) H'
theorem ok_is_single_part (T : Tx K mg) : Callee P w K mg base CX0 3 "is_single_part" ["kind", "part"] [] sp_is_single_part := by
  have C1 := (ok_is_name (P := P) (w := w) (base := base) T).up (show 1 ≤ 2 by decide)
  have C2 := ok_is_value (P := P) (w := w) (base := base) T
  have C3 := (ok_is_whole (P := P) (w := w) (base := base) T).up (show 1 ≤ 2 by decide)
  refine mkCallee (fd_is_single_part T) (mg_is_single_part T) sc_is_single_part (fun _ _ _ _ _ _ us hl => match us, hl with | [_, _], _ => rfl) (fun vs H Q E h => ?_) (fun cdv A outer s H vs Q E hr h => ?_)
  · obtain ⟨kd, x, rfl, _⟩ := h
    rfl
  · obtain ⟨kd, x, rfl, hx, k⟩ := h
    refine ⟨_, pss_cons (ps_if (pt_cmpR op_eq (pv 0) pe_str (nomark _)) (pss_one (ps_ret (pcall C1 hr (pa_cons (pv 1) pa_nil)))) pss_nil)
      (pss_cons (ps_if (pt_cmpR op_eq (pv 0) pe_str (nomark _)) (pss_one (ps_ret (pcall C2 hr (pa_cons (pv 1) pa_nil)))) pss_nil)
      (pss_one (ps_ret (pe_and (pcall C3 hr (pa_cons (pv 1) pa_nil)) (pe_one (pe_cmpR op_ge (pv 1) pe_int (nomark _))))))), ?_⟩
    refine ⟨_, rfl, rfl, _, rfl, ?_⟩
    rcases hx with ⟨rfl, hx⟩ | ⟨rfl, hx⟩ | ⟨rfl, i, rfl, hi⟩
    · rw [decide_eq_true rfl]
      cases x with
      | str z => exact iteT ⟨_, rfl, .str z, _, rfl, .base (.str z), fun m e => by cases e; exact nm_len hx, fun H' s' => by rw [hx]; exact k H' s'⟩
      | _ => cases hx
    · rw [decide_eq_false (by decide +kernel)]
      refine iteF ⟨_, rfl, rfl, _, rfl, ?_⟩
      rw [decide_eq_true rfl]
      cases x with
      | non => exact iteT ⟨_, rfl, .non, _, rfl, .base .non, k H (Same.refl _)⟩
      | int i => exact iteT ⟨_, rfl, .int i, _, rfl, .base (.int i), by rw [hx]; exact k H (Same.refl _)⟩
      | _ => cases hx
    · rw [decide_eq_false (by decide +kernel)]
      refine iteF ⟨_, rfl, rfl, _, rfl, ?_⟩
      rw [decide_eq_false (by decide +kernel)]
      refine iteF ⟨_, rfl, .int i, _, rfl, .base (.int i), _, rfl, iteT ⟨_, rfl, _, _, rfl, rfl, ?_⟩⟩
      show Q (.bl (decide (0 ≤ i))) H
      rw [decide_eq_true hi]
      exact k H (Same.refl _)
/-! has_parts, at what fits: the parts behind the first name -/
def sp_has_parts (K : PySem.W.Frag) : Sp := fun vs H Q _ => ∃ (t : Addr) (c : Ch), vs = [.str c.kind, .ref t] ∧ SqT K H t (c.toV.drop 2) ∧ c.fits = true ∧ ∀ H', Same H H' → Q (.bl true) H'
theorem ok_has_parts (T : Tx K mg) : Callee P w K mg base CX0 4 "has_parts" ["kind", "parts"] [] (sp_has_parts K) := by
  have C1 := ok_is_single_part (P := P) (w := w) (base := base) T
  have C2 := (ok_is_greatest (P := P) (w := w) (base := base) T).up (show 2 ≤ 3 by decide)
  have C3 := (ok_is_value (P := P) (w := w) (base := base) T).up (show 2 ≤ 3 by decide)
  have C4 := (ok_is_way (P := P) (w := w) (base := base) T).up (show 2 ≤ 3 by decide)
  refine mkCallee (fd_has_parts T) (mg_has_parts T) sc_has_parts (fun _ _ _ _ _ _ us hl => match us, hl with | [_, _], _ => rfl) (fun vs H Q E h => ?_) (fun cdv A outer s H vs Q E hr h => ?_)
  · obtain ⟨t, c, rfl, _⟩ := h
    rfl
  · obtain ⟨t, c, rfl, ht, hf, k⟩ := h
    have gl : mg "len" = none := fr_len T
    refine ⟨_, pss_cons (ps_if (pt_cmpR op_eq (pv 0) pe_str (nomark _)) (pss_one (ps_ret (pe_cmpR op_eq (pe_callB call_len (by rfl) gl PySem.boot_len (pa_cons (pv 1) pa_nil)) pe_int (nomark _)))) pss_nil)
      (pss_cons (ps_if (pt_cmpR op_in_seq (pv 0) (pe_tup (pa_cons pe_str (pa_cons pe_str (pa_cons pe_str pa_nil)))) (by rfl)) (pss_one (ps_ret (pe_and (pe_cmpR op_eq (pe_callB call_len (by rfl) gl PySem.boot_len (pa_cons (pv 1) pa_nil)) pe_int (nomark _))
          (pe_one (pcall C1 hr (pa_cons (pv 0) (pa_cons (pe_ix ix_tup (pv 1) pe_int (fun _ _ => rfl)) pa_nil))))))) pss_nil)
      (pss_cons (ps_if (pt_cmpR op_eq (pv 0) pe_str (nomark _)) (pss_one (ps_ret (pe_and (pe_cmpR op_eq (pe_callB call_len (by rfl) gl PySem.boot_len (pa_cons (pv 1) pa_nil)) pe_int (nomark _))
          (pe_and (pcall C2 hr (pa_cons (pe_ix ix_tup (pv 1) pe_int (fun _ _ => rfl)) pa_nil)) (pe_one (pcall C3 hr (pa_cons (pe_ix ix_tup (pv 1) pe_int (fun _ _ => rfl)) pa_nil))))))) pss_nil)
      (pss_cons (ps_if (pt_cmpR op_eq (pv 0) pe_str (nomark _)) (pss_one (ps_ret (pe_and (pe_cmpR op_eq (pe_callB call_len (by rfl) gl PySem.boot_len (pa_cons (pv 1) pa_nil)) pe_int (nomark _))
          (pe_and (pcall C2 hr (pa_cons (pe_ix ix_tup (pv 1) pe_int (fun _ _ => rfl)) pa_nil)) (pe_one (pcall C4 hr (pa_cons (pe_ix ix_tup (pv 1) pe_int (fun _ _ => rfl)) pa_nil))))))) pss_nil)
      (pss_one (ps_ret pe_bl))))), ?_⟩
    cases c with
    | drop n =>
      refine ⟨_, rfl, rfl, _, rfl, iteT ⟨_, rfl, _, 0, rfl, .inr ⟨_, ht, rfl⟩, rfl, ?_⟩⟩
      exact k H (Same.refl _)
    | rename n m =>
      have hf' : (isNm (.str n) && isNm (.str m)) = true := hf
      rw [Bool.and_eq_true] at hf'
      refine ⟨_, rfl, rfl, _, rfl, ?_⟩
      refine iteD (nes (show ("rename" : Str) ≠ "drop" by decide +kernel)) ⟨_, rfl, (by show 3 ≤ sizeLine; decide), fun t2 nt2 => ⟨t2, _, rfl, .inr (sqT_of upd_same), rfl, rfl, _, rfl, iteT ?_⟩⟩
      have s2 := same_new (o := .tup [V.str "rename", .str "default", .str "fill"]) nt2
      refine ⟨_, rfl, _, 1, rfl, .inr ⟨_, same_tup s2 ht, rfl⟩, rfl, _, rfl, iteT ⟨_, rfl, _, rfl, t, _, 0, _, rfl, rfl, same_tup s2 ht, rfl, _, _, rfl, .inl ⟨rfl, hf'.2⟩, fun H' s' => k H' (s2.trans s')⟩⟩
    | dflt n v =>
      have hf' : (isNm (.str n) && isVal v) = true := hf
      rw [Bool.and_eq_true] at hf'
      refine ⟨_, rfl, rfl, _, rfl, ?_⟩
      refine iteD (nes (show ("default" : Str) ≠ "drop" by decide +kernel)) ⟨_, rfl, (by show 3 ≤ sizeLine; decide), fun t2 nt2 => ⟨t2, _, rfl, .inr (sqT_of upd_same), rfl, rfl, _, rfl, iteT ?_⟩⟩
      have s2 := same_new (o := .tup [V.str "rename", .str "default", .str "fill"]) nt2
      refine ⟨_, rfl, _, 1, rfl, .inr ⟨_, same_tup s2 ht, rfl⟩, rfl, _, rfl, iteT ⟨_, rfl, _, rfl, t, _, 0, _, rfl, rfl, same_tup s2 ht, rfl, _, _, rfl, .inr (.inl ⟨rfl, hf'.2⟩), fun H' s' => k H' (s2.trans s')⟩⟩
    | fill n i =>
      have hf' : (isNm (.str n) && decide (0 ≤ i)) = true := hf
      rw [Bool.and_eq_true] at hf'
      refine ⟨_, rfl, rfl, _, rfl, ?_⟩
      refine iteD (nes (show ("fill" : Str) ≠ "drop" by decide +kernel)) ⟨_, rfl, (by show 3 ≤ sizeLine; decide), fun t2 nt2 => ⟨t2, _, rfl, .inr (sqT_of upd_same), rfl, rfl, _, rfl, iteT ?_⟩⟩
      have s2 := same_new (o := .tup [V.str "rename", .str "default", .str "fill"]) nt2
      refine ⟨_, rfl, _, 1, rfl, .inr ⟨_, same_tup s2 ht, rfl⟩, rfl, _, rfl, iteT ⟨_, rfl, _, rfl, t, _, 0, _, rfl, rfl, same_tup s2 ht, rfl, _, _, rfl, .inr (.inr ⟨rfl, i, rfl, of_decide_eq_true hf'.2⟩), fun H' s' => k H' (s2.trans s')⟩⟩
    | add n g d =>
      have hf' : (isNm (.str n) && (isGr (.int g) && isVal d)) = true := hf
      rw [Bool.and_eq_true, Bool.and_eq_true] at hf'
      refine ⟨_, rfl, rfl, _, rfl, ?_⟩
      refine iteD (nes (show ("add" : Str) ≠ "drop" by decide +kernel)) ⟨_, rfl, (by show 3 ≤ sizeLine; decide), fun t2 nt2 => ⟨t2, _, rfl, .inr (sqT_of upd_same), rfl, rfl, _, rfl, iteF ?_⟩⟩
      have s2 := same_new (o := .tup [V.str "rename", .str "default", .str "fill"]) nt2
      refine ⟨_, rfl, rfl, _, rfl, iteT ⟨_, rfl, _, 2, rfl, .inr ⟨_, same_tup s2 ht, rfl⟩, rfl, _, rfl, iteT ⟨_, rfl, t, _, 0, _, rfl, rfl, same_tup s2 ht, rfl, .int g, _, rfl, .base (.int g), _, rfl, ?_⟩⟩⟩
      rw [hf'.2.1]
      have td : ∃ ty, TyX K (upd H t2 (.tup [V.str "rename", .str "default", .str "fill"])) d (.type ty) := by
        cases d with
        | non => exact ⟨_, .base .non⟩
        | int i => exact ⟨_, .base (.int i)⟩
        | _ => cases hf'.2.2
      obtain ⟨ty, td⟩ := td
      refine iteT ⟨_, rfl, t, _, 1, _, rfl, rfl, same_tup s2 ht, rfl, d, ty, rfl, td, ?_⟩
      rw [hf'.2.2]
      exact k _ s2
    | great n g way =>
      have hf' : (isNm (.str n) && (isGr (.int g) && isWy way)) = true := hf
      rw [Bool.and_eq_true, Bool.and_eq_true] at hf'
      refine ⟨_, rfl, rfl, _, rfl, ?_⟩
      refine iteD (nes (show ("greatest" : Str) ≠ "drop" by decide +kernel)) ⟨_, rfl, (by show 3 ≤ sizeLine; decide), fun t2 nt2 => ⟨t2, _, rfl, .inr (sqT_of upd_same), rfl, rfl, _, rfl, iteF ?_⟩⟩
      have s2 := same_new (o := .tup [V.str "rename", .str "default", .str "fill"]) nt2
      refine ⟨_, rfl, rfl, _, rfl, ?_⟩
      refine iteD (nes (show ("greatest" : Str) ≠ "add" by decide +kernel)) ⟨_, rfl, rfl, _, rfl, iteT ⟨_, rfl, _, 2, rfl, .inr ⟨_, same_tup s2 ht, rfl⟩, rfl, _, rfl, iteT ⟨_, rfl, t, _, 0, _, rfl, rfl, same_tup s2 ht, rfl, .int g, _, rfl, .base (.int g), _, rfl, ?_⟩⟩⟩
      rw [hf'.2.1]
      exact iteT ⟨_, rfl, t, _, 1, _, rfl, rfl, same_tup s2 ht, rfl, way, rfl, hf'.2.2, k _ s2⟩
/-! is_change, at what fits -/
/-- a change stands at t -/
def ChAt (K : PySem.W.Frag) (H : Hp) (t : Addr) (c : Ch) : Prop := SqT K H t c.toV
theorem ChAt.keep {K : PySem.W.Frag} {H H' : Hp} {t : Addr} {c : Ch} (s : Same H H') (h : ChAt K H t c) : ChAt K H' t c := same_tup s h
theorem Ch.nm {c : Ch} (h : c.fits = true) : isNm (.str c.name) = true := by
  cases c <;> first | exact h | exact (Bool.and_eq_true_iff.mp h).1
theorem Ch.len (c : Ch) : 2 ≤ c.toV.length := by cases c <;> simp [Ch.toV]
theorem sqT_tup {K : PySem.W.Frag} {H : Hp} {a : Addr} {xs : List V} (h : SqT K H a xs) : TyX K H (.ref a) (.type "tuple") := by
  rcases h with (h | ⟨o, h⟩) | ⟨o, its, n, h, hc, _⟩
  · exact .base (.tup h)
  · exact .fTuple h
  · exact .kTuple h hc
def sp_is_change (K : PySem.W.Frag) : Sp := fun vs H Q _ => ∃ (t : Addr) (c : Ch), vs = [.ref t] ∧ ChAt K H t c ∧ c.fits = true ∧ ∀ H', Same H H' → Q (.bl true) H'
theorem six2 {n : Nat} (h : 2 ≤ n) : HT.sIx n 0 (some 2) = 2 := by
  have e := HT.sIx_nat n 0 2
  have e2 : ((2 : Nat) : Int) = 2 := rfl
  rw [e2] at e
  rw [e]
  omega
theorem cut2 (c : Ch) : cutV c.toV (some 2) none = c.toV.drop 2 := by
  have h := c.len
  unfold cutV
  rw [six2 h, HT.sIx_none]
  exact List.take_of_length_le (by rw [List.length_drop]; exact Nat.le_refl _)
theorem ok_is_change (T : Tx K mg) : Callee P w K mg base CX0 5 "is_change" ["value"] [] (sp_is_change K) := by
  have C1 := (ok_is_name (P := P) (w := w) (base := base) T).up (show 1 ≤ 4 by decide)
  have C2 := ok_has_parts (P := P) (w := w) (base := base) T
  refine mkCallee (fd_is_change T) (mg_is_change T) sc_is_change (fun _ _ _ _ _ _ us hl => match us, hl with | [_], _ => rfl) (fun vs H Q E h => ?_) (fun cdv A outer s H vs Q E hr h => ?_)
  · obtain ⟨t, c, rfl, _⟩ := h
    rfl
  · obtain ⟨t, c, rfl, ht, hf, k⟩ := h
    refine ⟨_, pss_cons (ps_if (PW.pt (pw_or (pt_not (pt_val (pe_callB call_isi (by rfl) (fr_isinstance T) (by decide +kernel) (pa_cons (pv 0) (pa_cons (pe_bltn (v := .ty "tuple") (by rfl) (fr_tuple T) (by decide +kernel) rfl) pa_nil)))))
        (pw_or1 (pt_cmpR op_lt (pe_callB call_len (by rfl) (fr_len T) PySem.boot_len (pa_cons (pv 0) pa_nil)) pe_int (nomark _))))) (pss_one (ps_ret pe_bl)) pss_nil)
      (pss_one (ps_ret (pe_and (pe_callB call_isi (by rfl) (fr_isinstance T) (by decide +kernel) (pa_cons (pe_ix ix_tup (pv 0) pe_int (fun _ _ => rfl)) (pa_cons (pe_bltn (v := .ty "str") (by rfl) (fr_str T) (by decide +kernel) rfl) pa_nil)))
        (pe_and (pcall C1 hr (pa_cons (pe_ix ix_tup (pv 0) pe_int (fun _ _ => rfl)) pa_nil)) (pe_one (pcall C2 hr (pa_cons (pe_ix ix_tup (pv 0) pe_int (fun _ _ => rfl)) (pa_cons (pe_slice sl_tup (pv 0) (po_some pe_int) po_none) pa_nil)))))))), ?_⟩
    have hl := c.len
    refine ⟨_, rfl, .ref t, .ty "tuple", _, _, true, rfl, .ty "tuple", sqT_tup ht, kit_ty (by decide +kernel), _, rfl, iteF ⟨_, rfl, _, c.toV.length, rfl, .inr ⟨_, ht, rfl⟩, _, _, rfl, rfl, _, rfl, iteD (by omega) ?_⟩⟩
    refine ⟨_, rfl, t, _, 0, _, rfl, rfl, ht, c.at0, .str c.kind, .ty "str", _, _, true, rfl, .ty "str", .base (.str _), kit_ty (by decide +kernel), _, rfl, iteT ?_⟩
    have hn := Ch.nm hf
    refine ⟨_, rfl, t, _, 1, _, rfl, rfl, ht, c.at1, .str c.name, _, rfl, .base (.str _), fun n e => by cases e; exact nm_len hn, fun H1 s1 => ⟨_, rfl, ?_⟩⟩
    rw [hn]
    refine iteT ⟨_, rfl, t, _, 0, _, rfl, rfl, same_tup s1 ht, c.at0, _, rfl, 2, rfl, t, _, rfl, same_tup s1 ht, fun z => by rw [six2 hl] at z; exact absurd z.1 (by decide), fun p np => ?_⟩
    rw [cut2]
    exact ⟨p, c, rfl, sqT_of upd_same, hf, fun H' s' => k H' ((s1.trans (same_new np)).trans s')⟩
/-! value_above -/
/-- what a value above becomes -/
def abv (g : Int) (way : Str) : V := if way = "cut" then .int g else if way = "none" then .non else .str "missing"
def sp_value_above (K : PySem.W.Frag) : Sp := fun vs H Q _ => ∃ (t : Addr) (n way : Str) (g : Int), vs = [.ref t] ∧ ChAt K H t (.great n g way) ∧ Q (abv g way) H
theorem ok_value_above (T : Tx K mg) : Callee P w K mg base CX0 1 "value_above" ["change"] [] (sp_value_above K) := by
  refine mkCallee (fd_value_above T) (mg_value_above T) sc_value_above (fun _ _ _ _ _ _ us hl => match us, hl with | [_], _ => rfl) (fun vs H Q E h => ?_) (fun cdv A outer s H vs Q E hr h => ?_)
  · obtain ⟨t, n, way, g, rfl, _⟩ := h
    rfl
  · obtain ⟨t, n, way, g, rfl, ht, k⟩ := h
    obtain ⟨tk, gM⟩ := ms_MISSING T
    refine ⟨_, pss_cons (ps_if (pt_cmpR op_eq (pe_ix ix_tup (pv 0) pe_int (fun _ _ => rfl)) pe_str (nomark _)) (pss_one (ps_ret (pe_ix ix_tup (pv 0) pe_int (fun _ _ => rfl)))) pss_nil)
      (pss_cons (ps_if (pt_cmpR op_eq (pe_ix ix_tup (pv 0) pe_int (fun _ _ => rfl)) pe_str (nomark _)) (pss_one (ps_ret pe_non)) pss_nil) (pss_one (ps_ret (pe_glob (v := .str "missing") (by rfl) gM ⟨_, rfl⟩)))), ?_⟩
    have i3 : atI (Ch.great n g way).toV 3 = some (.str way) := rfl
    have i2 : atI (Ch.great n g way).toV 2 = some (.int g) := rfl
    refine ⟨_, rfl, t, _, 3, _, rfl, rfl, ht, i3, rfl, _, rfl, ?_⟩
    unfold abv at k
    by_cases h1 : way = "cut"
    · rw [if_pos h1] at k
      subst h1
      exact iteDT rfl ⟨_, rfl, t, _, 2, _, rfl, rfl, ht, i2, k⟩
    · rw [if_neg h1] at k
      refine iteD (nes h1) ⟨_, rfl, t, _, 3, _, rfl, rfl, ht, i3, rfl, _, rfl, ?_⟩
      by_cases h2 : way = "none"
      · rw [if_pos h2] at k
        subst h2
        exact iteDT rfl k
      · rw [if_neg h2] at k
        exact iteD (nes h2) k
/-! changed_value -/
/-- what a value of a column of this name becomes -/
def chgV (n : Str) (c : Ch) (v : V) : V := if c.name = n then (match c, v with
  | .fill _ i, .non => .int i
  | .great _ g way, .int j => if g < j then abv g way else .int j
  | _, v => v) else v
/-- None or an int -/
def valOk : V → Bool
  | .non => true
  | .int _ => true
  | _ => false
def sp_changed_value (K : PySem.W.Frag) : Sp := fun vs H Q _ => ∃ (a t : Addr) (n : Str) (g k : Int) (d v : V) (c : Ch), vs = [.ref a, .ref t, v] ∧ ColAt K H a n g d k ∧ ChAt K H t c ∧ valOk v = true ∧ Q (chgV n c v) H
theorem ok_changed_value (T : Tx K mg) : Callee P w K mg base CX0 2 "changed_value" ["column", "change", "value"] [] (sp_changed_value K) := by
  have C1 := ok_value_above (P := P) (w := w) (base := base) T
  refine mkCallee (fd_changed_value T) (mg_changed_value T) sc_changed_value (fun _ _ _ _ _ _ us hl => match us, hl with | [_, _, _], _ => rfl) (fun vs H Q E h => ?_) (fun cdv A outer s H vs Q E hr h => ?_)
  · obtain ⟨a, t, n, g, k, d, v, c, rfl, _⟩ := h
    rfl
  · obtain ⟨a, t, n, g, k, d, v, c, rfl, ⟨dx, ha⟩, ht, hv, kk⟩ := h
    refine ⟨_, pss_cons (ps_if (pt_cmpR op_ne (pe_ix ix_tup (pv 1) pe_int (fun _ _ => rfl)) (pe_fld (pv 0) rfl) (nomark _)) (pss_one (ps_ret (pv 2))) pss_nil)
      (pss_cons (ps_if (PW.pt (pw_and (pt_cmpR op_eq (pe_ix ix_tup (pv 1) pe_int (fun _ _ => rfl)) pe_str (nomark _)) (pw_and1 (pt_cmpR op_isN (pv 2) pe_non (nomark _))))) (pss_one (ps_ret (pe_ix ix_tup (pv 1) pe_int (fun _ _ => rfl)))) pss_nil)
      (pss_cons (ps_if (PW.pt (pw_and (pt_cmpR op_eq (pe_ix ix_tup (pv 1) pe_int (fun _ _ => rfl)) pe_str (nomark _)) (pw_and (pt_cmpR op_notN (pv 2) pe_non (nomark _)) (pw_and1 (pt_cmpR op_gt (pv 2) (pe_ix ix_tup (pv 1) pe_int (fun _ _ => rfl)) (nomark _))))))
        (pss_one (ps_ret (pcall C1 hr (pa_cons (pv 1) pa_nil)))) pss_nil)
      (pss_one (ps_ret (pv 2))))), ?_⟩
    refine ⟨_, rfl, t, _, 1, _, rfl, rfl, ht, c.at1, _, rfl, a, _, dx, _, _, rfl, ha, cl_Column T, na_Column_name T, colFs_name, rfl, _, rfl, ?_⟩
    unfold chgV at kk
    by_cases hn : c.name = n
    · rw [if_pos hn] at kk
      refine iteNS (by rw [hn]) ?_
      cases c with
      | add n2 g2 d2 =>
        refine ⟨_, rfl, t, _, 0, _, rfl, rfl, ht, rfl, rfl, _, rfl, iteD (nes (show ("add" : Str) ≠ "fill" by decide +kernel)) (iteF ?_)⟩
        exact ⟨_, rfl, t, _, 0, _, rfl, rfl, ht, rfl, rfl, _, rfl, iteD (nes (show ("add" : Str) ≠ "greatest" by decide +kernel)) (iteF ⟨_, rfl, kk⟩)⟩
      | drop n2 =>
        refine ⟨_, rfl, t, _, 0, _, rfl, rfl, ht, rfl, rfl, _, rfl, iteD (nes (show ("drop" : Str) ≠ "fill" by decide +kernel)) (iteF ?_)⟩
        exact ⟨_, rfl, t, _, 0, _, rfl, rfl, ht, rfl, rfl, _, rfl, iteD (nes (show ("drop" : Str) ≠ "greatest" by decide +kernel)) (iteF ⟨_, rfl, kk⟩)⟩
      | rename n2 m2 =>
        refine ⟨_, rfl, t, _, 0, _, rfl, rfl, ht, rfl, rfl, _, rfl, iteD (nes (show ("rename" : Str) ≠ "fill" by decide +kernel)) (iteF ?_)⟩
        exact ⟨_, rfl, t, _, 0, _, rfl, rfl, ht, rfl, rfl, _, rfl, iteD (nes (show ("rename" : Str) ≠ "greatest" by decide +kernel)) (iteF ⟨_, rfl, kk⟩)⟩
      | dflt n2 v2 =>
        refine ⟨_, rfl, t, _, 0, _, rfl, rfl, ht, rfl, rfl, _, rfl, iteD (nes (show ("default" : Str) ≠ "fill" by decide +kernel)) (iteF ?_)⟩
        exact ⟨_, rfl, t, _, 0, _, rfl, rfl, ht, rfl, rfl, _, rfl, iteD (nes (show ("default" : Str) ≠ "greatest" by decide +kernel)) (iteF ⟨_, rfl, kk⟩)⟩
      | fill n2 i =>
        refine ⟨_, rfl, t, _, 0, _, rfl, rfl, ht, rfl, rfl, _, rfl, iteDT rfl ⟨_, rfl, rfl, _, rfl, ?_⟩⟩
        cases v with
        | non => exact iteDT rfl ⟨_, rfl, t, _, 2, _, rfl, rfl, ht, rfl, kk⟩
        | int j =>
          refine iteD (by intro z; cases z) ?_
          exact ⟨_, rfl, t, _, 0, _, rfl, rfl, ht, rfl, rfl, _, rfl, iteD (nes (show ("fill" : Str) ≠ "greatest" by decide +kernel)) (iteF ⟨_, rfl, kk⟩)⟩
        | _ => cases hv
      | great n2 g2 way =>
        refine ⟨_, rfl, t, _, 0, _, rfl, rfl, ht, rfl, rfl, _, rfl, iteD (nes (show ("greatest" : Str) ≠ "fill" by decide +kernel)) (iteF ?_)⟩
        refine ⟨_, rfl, t, _, 0, _, rfl, rfl, ht, rfl, rfl, _, rfl, iteDT rfl ⟨_, rfl, rfl, _, rfl, ?_⟩⟩
        cases v with
        | non => exact iteNS rfl (iteF ⟨_, rfl, kk⟩)
        | int j =>
          refine iteNF (by intro z; cases z) ⟨_, rfl, _, rfl, t, _, 2, _, rfl, rfl, ht, rfl, _, _, rfl, rfl, _, rfl, ?_⟩
          by_cases hj : g2 < j
          · refine iteDT hj ⟨_, rfl, t, n2, way, g2, rfl, ht, ?_⟩
            have e : (if g2 < j then abv g2 way else V.int j) = abv g2 way := if_pos hj
            rw [← e]
            exact kk
          · refine iteD hj ⟨_, rfl, ?_⟩
            have e : (if g2 < j then abv g2 way else V.int j) = V.int j := if_neg hj
            rw [← e]
            exact kk
        | _ => cases hv
    · rw [if_neg hn] at kk
      exact iteNF (nes hn) ⟨_, rfl, kk⟩
/-! changed_column -/
def ColA (K : PySem.W.Frag) (H : Hp) (a : Addr) (c : Col) : Prop := ColAt K H a c.name c.top c.dflt c.num
theorem ColA.keep {K : PySem.W.Frag} {H H' : Hp} {a : Addr} {c : Col} (s : Same H H') (h : ColA K H a c) : ColA K H' a c := h.imp fun _ e => s _ _ e
theorem ColA.keepNL {K : PySem.W.Frag} {H H' : Hp} {a : Addr} {c : Col} (s : KeepNL H H') (h : ColA K H a c) : ColA K H' a c := h.imp fun _ e => s _ _ (fun _ z => by cases z) e
/-- a column's parts fit -/
structure ColOk (c : Col) : Prop where
  nm : isNm (.str c.name) = true
  gr : isGr (.int c.top) = true
  df : isIn c.top c.dflt = true
  nu : 0 ≤ c.num
/-- what a change of a column that does not drop it makes of it -/
def chgC (c : Col) (ch : Ch) : Col := match ch with
  | .rename _ m => { c with name := m }
  | .dflt _ v => { c with dflt := v }
  | .great n g way => { c with top := g, dflt := chgV c.name (.great n g way) c.dflt }
  | _ => c
theorem isIn_ok {g : Int} {v : V} (h : isIn g v = true) : valOk v = true := by
  cases v with
  | non => rfl
  | int _ => rfl
  | _ => cases h
def sp_changed_column (K : PySem.W.Frag) : Sp := fun vs H Q _ => ∃ (a t : Addr) (c : Col) (ch : Ch), vs = [.ref a, .ref t] ∧ ColA K H a c ∧ ChAt K H t ch ∧ ColOk c ∧ ColOk (chgC c ch) ∧ ∀ (a' : Addr) (H' : Hp), Same H H' → ColA K H' a' (chgC c ch) → Q (.ref a') H'
theorem ok_changed_column (T : Tx K mg) : Callee P w K mg base CX0 7 "changed_column" ["column", "change"] [] (sp_changed_column K) := by
  obtain ⟨fdC, GC, bC⟩ := ok_changed (P := P) (w := w) (base := base) T
  obtain ⟨fdI, GI, FI⟩ := ok_Col_init (P := P) (w := w) (base := base) T
  obtain ⟨_, _, kb⟩ := kbinds_Col T FI
  have C1 := (ok_changed_value (P := P) (w := w) (base := base) T).up (show 2 ≤ 6 by decide)
  have cl := cl_Column T
  refine mkCallee (fd_changed_column T) (mg_changed_column T) sc_changed_column (fun _ _ _ _ _ _ us hl => match us, hl with | [_, _], _ => rfl) (fun vs H Q E h => ?_) (fun cdv A outer s H vs Q E hr h => ?_)
  · obtain ⟨a, t, c, ch, rfl, _⟩ := h
    rfl
  · obtain ⟨a, t, c, ch, rfl, ⟨dx, ha⟩, ht, ok1, ok2, k⟩ := h
    have nd := sc_changed_column.nd
    have lk : (colFs c.name c.top c.dflt c.num).lookup ("changed" : Str) = none := by
      have g1 : (("changed" : Str) == "name") = false := by decide +kernel
      have g2 : (("changed" : Str) == "greatest") = false := by decide +kernel
      have g3 : (("changed" : Str) == "default") = false := by decide +kernel
      have g4 : (("changed" : Str) == "number") = false := by decide +kernel
      unfold colFs
      simp [List.lookup, g1, g2, g3, g4]
    refine ⟨_, pss_cons (ps_set (i := 2) nd rfl (Or.inl rfl) (pe_ix ix_tup (pv 1) pe_int (fun _ _ => rfl)))
      (pss_cons (ps_if (pt_cmpR op_eq (pv 2) pe_str (nomark _)) (pss_one (ps_ret (pe_meth (pv 0) cl (me_Column_changed T) GC hr bC .nil pass0 (pa_cons pe_str (pa_cons (pe_ix ix_tup (pv 1) pe_int (fun _ _ => rfl)) pa_nil))))) pss_nil)
      (pss_cons (ps_if (pt_cmpR op_eq (pv 2) pe_str (nomark _)) (pss_one (ps_ret (pe_meth (pv 0) cl (me_Column_changed T) GC hr bC .nil pass0 (pa_cons pe_str (pa_cons (pe_ix ix_tup (pv 1) pe_int (fun _ _ => rfl)) pa_nil))))) pss_nil)
      (pss_cons (ps_if (pt_cmpR op_eq (pv 2) pe_str (nomark _)) (pss_cons (ps_set (i := 3) nd rfl (Or.inl rfl) (pcall C1 hr (pa_cons (pv 0) (pa_cons (pv 1) (pa_cons (pe_fld (pv 0) rfl) pa_nil)))))
          (pss_one (ps_ret (pe_makeK (mk_Column T) GI (hr.mono (by decide)) (by rfl) (mg_Column T) kb pass0 (pa_cons (pe_fld (pv 0) rfl) (pa_cons (pe_ix ix_tup (pv 1) pe_int (fun _ _ => rfl)) (pa_cons (pv 3) pa_nil))) (pk_cons (pe_fld (pv 0) rfl) pk_nil))))) pss_nil)
      (pss_one (ps_ret (pv 0)))))), ?_⟩
    refine ⟨_, rfl, t, _, 0, _, rfl, rfl, ht, ch.at0, _, rfl, rfl, _, rfl, ?_⟩
    have dv := isIn_ok ok1.df
    cases ch with
    | add n g d =>
      refine iteD (nes (show ("add" : Str) ≠ "rename" by decide +kernel)) ⟨_, rfl, rfl, _, rfl, iteD (nes (show ("add" : Str) ≠ "default" by decide +kernel)) ⟨_, rfl, rfl, _, rfl, iteD (nes (show ("add" : Str) ≠ "greatest" by decide +kernel)) ⟨_, rfl, k a H (Same.refl _) ⟨dx, ha⟩⟩⟩⟩
    | drop n =>
      refine iteD (nes (show ("drop" : Str) ≠ "rename" by decide +kernel)) ⟨_, rfl, rfl, _, rfl, iteD (nes (show ("drop" : Str) ≠ "default" by decide +kernel)) ⟨_, rfl, rfl, _, rfl, iteD (nes (show ("drop" : Str) ≠ "greatest" by decide +kernel)) ⟨_, rfl, k a H (Same.refl _) ⟨dx, ha⟩⟩⟩⟩
    | fill n i =>
      refine iteD (nes (show ("fill" : Str) ≠ "rename" by decide +kernel)) ⟨_, rfl, rfl, _, rfl, iteD (nes (show ("fill" : Str) ≠ "default" by decide +kernel)) ⟨_, rfl, rfl, _, rfl, iteD (nes (show ("fill" : Str) ≠ "greatest" by decide +kernel)) ⟨_, rfl, k a H (Same.refl _) ⟨dx, ha⟩⟩⟩⟩
    | rename n m =>
      have i2 : atI (Ch.rename n m).toV 2 = some (.str m) := rfl
      refine iteDT rfl ⟨_, rfl, a, dx, _, rfl, ha, lk, _, rfl, t, _, 2, _, rfl, rfl, ht, i2, a, "name", c.name, m, c.top, c.num, c.top, c.num, c.dflt, c.dflt, .str m, rfl, ⟨dx, ha⟩, ⟨.inl rfl, by rw [if_pos rfl]⟩, ok2.nm, ok2.gr, ok2.df, ok2.nu, fun a' H' _ s' h' => k a' H' s' h'⟩
    | dflt n v =>
      have i2 : atI (Ch.dflt n v).toV 2 = some v := rfl
      refine iteD (nes (show ("default" : Str) ≠ "rename" by decide +kernel)) ⟨_, rfl, rfl, _, rfl, iteDT rfl ⟨_, rfl, a, dx, _, rfl, ha, lk, _, rfl, t, _, 2, _, rfl, rfl, ht, i2, a, "default", c.name, c.name, c.top, c.num, c.top, c.num, c.dflt, v, v, rfl, ⟨dx, ha⟩,
        ⟨.inr (.inr (.inl rfl)), by rw [if_neg (show ¬ ("default" : Str) = "name" by decide +kernel), if_neg (show ¬ ("default" : Str) = "greatest" by decide +kernel), if_pos rfl]⟩, ok2.nm, ok2.gr, ok2.df, ok2.nu, fun a' H' _ s' h' => k a' H' s' h'⟩⟩
    | great n g way =>
      have i2 : atI (Ch.great n g way).toV 2 = some (.int g) := rfl
      refine iteD (nes (show ("greatest" : Str) ≠ "rename" by decide +kernel)) ⟨_, rfl, rfl, _, rfl, iteD (nes (show ("greatest" : Str) ≠ "default" by decide +kernel)) ⟨_, rfl, rfl, _, rfl, iteDT rfl ?_⟩⟩
      refine ⟨_, rfl, _, rfl, _, rfl, a, _, dx, _, _, rfl, ha, cl, na_Column_default T, colFs_default, a, t, c.name, c.top, c.num, c.dflt, c.dflt, .great n g way, rfl, ⟨dx, ha⟩, ht, dv, ?_⟩
      refine ⟨_, rfl, a, _, dx, _, _, rfl, ha, cl, na_Column_name T, colFs_name, _, rfl, t, _, 2, _, rfl, rfl, ht, i2, _, rfl, _, rfl, a, _, dx, _, _, rfl, ha, cl, na_Column_number T, colFs_number, rfl, rfl, fun x dx2 nx ndx ndc => ?_⟩
      refine ⟨x, dx2, c.name, g, c.num, chgV c.name (.great n g way) c.dflt, rfl, upd_same, ok2.nm, ok2.gr, ok2.df, ok2.nu, fun H4 hc4 k4 => ⟨rfl, ?_⟩⟩
      exact k x H4 (fun b o e => k4 b o (ne_of_none e nx) (by rw [upd_ne (ne_of_none e nx), upd_ne (ne_of_none e ndx)]; exact e)) hc4
/-! values compared -/
theorem val_scal2 {v u : V} (h : isVal v = true) (g : isVal u = true) : scal v u = true := by
  cases v with
  | non => cases u with
    | non => rfl
    | int _ => rfl
    | _ => cases g
  | int _ => cases u with
    | non => rfl
    | int _ => rfl
    | _ => cases g
  | _ => cases h
theorem val_scal {v : V} (h : isVal v = true) : scal v v = true := by
  cases v with
  | non => rfl
  | int _ => rfl
  | _ => cases h
theorem in_val {g : Int} {v : V} (h : isIn g v = true) : isVal v = true := by
  cases v with
  | non => rfl
  | int i =>
    have h : (decide (0 ≤ i) && decide (i ≤ g)) = true := h
    exact (Bool.and_eq_true_iff.mp h).1
  | _ => cases h
theorem in_valOk {g : Int} {v : V} (h : isIn g v = true) : valOk v = true := by
  cases v with
  | non => rfl
  | int _ => rfl
  | _ => cases h

/-! column == column -/
def colEq (c d : Col) : Bool := decide (c.name = d.name) && (decide (c.top = d.top) && (decide (c.dflt = d.dflt) && decide (c.num = d.num)))
theorem colEq_self (c : Col) : colEq c c = true := by
  unfold colEq
  rw [decide_eq_true rfl, decide_eq_true rfl, decide_eq_true rfl, decide_eq_true rfl]
  rfl
def sp_Col_eq (K : PySem.W.Frag) : Sp := fun vs H Q _ => ∃ (a b : Addr) (c d : Col), vs = [.ref a, .ref b] ∧ ColA K H a c ∧ ColA K H b d ∧ isVal c.dflt = true ∧ isVal d.dflt = true ∧ Q (.bl (colEq c d)) H
theorem ok_Col_eq (T : Tx K mg) : ∃ fd, FnOk P w K mg base CX0 1 (He.ma K (He.ga K "Column") "__eq__") fd ["self", "other"] (sp_Col_eq K) ∧ Binds K fd ["self", "other"] [] := by
  have ic := insC_of (ex_Column T) (cl_Column T)
  have cl := cl_Column T
  refine mkMeth (fd_Column___eq__ T) sc_Column___eq__ (fun _ _ _ _ _ _ us hl => match us, hl with | [_, _], _ => rfl) (fun vs H Q E h => ?_) (fun cdv A outer s H vs Q E hr h => ?_)
  · obtain ⟨a, b, c, d, rfl, _⟩ := h
    rfl
  obtain ⟨a, b, c, d, rfl, ⟨dx, h1⟩, ⟨dy, h2⟩, v1, v2, k⟩ := h
  refine ⟨_, pss_one (ps_ret (pe_and (pe_callB (C8.call_isC ic) (by rfl) (fr_isinstance T) (by decide +kernel) (pa_cons (pv 1) (pa_cons (pe_glob (v := .ref (He.ga K "Column")) (by rfl) (mg_Column T) rfl) pa_nil)))
    (pe_and (pe_cmpR op_eq (pe_fld (pv 0) rfl) (pe_fld (pv 1) rfl) (nomark _)) (pe_and (pe_cmpR op_eq (pe_fld (pv 0) rfl) (pe_fld (pv 1) rfl) (nomark _)) (pe_and (pe_cmpR op_eq (pe_fld (pv 0) rfl) (pe_fld (pv 1) rfl) (nomark _)) (pe_one (pe_cmpR op_eq (pe_fld (pv 0) rfl) (pe_fld (pv 1) rfl) (nomark _)))))))), ?_⟩
  have dI : ∀ i j : Int, decide (V.int i = V.int j) = decide (i = j) := fun i j => by
    rw [Bool.eq_iff_iff, decide_eq_true_iff, decide_eq_true_iff]
    exact ⟨V.int.inj, congrArg _⟩
  have dS : ∀ i j : Str, decide (V.str i = V.str j) = decide (i = j) := fun i j => by
    rw [Bool.eq_iff_iff, decide_eq_true_iff, decide_eq_true_iff]
    exact ⟨V.str.inj, congrArg _⟩
  unfold colEq at k
  refine ⟨_, rfl, b, dy, _, rfl, h2, _, rfl, iteT ?_⟩
  refine ⟨_, rfl, a, _, dx, _, _, rfl, h1, cl, na_Column_name T, colFs_name, _, rfl, b, _, dy, _, _, rfl, h2, cl, na_Column_name T, colFs_name, rfl, _, rfl, ?_⟩
  rw [dS]
  cases e1 : decide (c.name = d.name) with
  | false =>
    rw [e1] at k
    exact iteF k
  | true =>
    rw [e1, Bool.true_and] at k
    refine iteT ⟨_, rfl, a, _, dx, _, _, rfl, h1, cl, na_Column_greatest T, colFs_greatest, _, rfl, b, _, dy, _, _, rfl, h2, cl, na_Column_greatest T, colFs_greatest, rfl, _, rfl, ?_⟩
    rw [dI]
    cases e2 : decide (c.top = d.top) with
    | false =>
      rw [e2] at k
      exact iteF k
    | true =>
      rw [e2, Bool.true_and] at k
      refine iteT ⟨_, rfl, a, _, dx, _, _, rfl, h1, cl, na_Column_default T, colFs_default, _, rfl, b, _, dy, _, _, rfl, h2, cl, na_Column_default T, colFs_default, val_scal2 v1 v2, _, rfl, ?_⟩
      cases e3 : decide (c.dflt = d.dflt) with
      | false =>
        rw [e3] at k
        exact iteF k
      | true =>
        rw [e3, Bool.true_and] at k
        refine iteT ⟨_, rfl, a, _, dx, _, _, rfl, h1, cl, na_Column_number T, colFs_number, _, rfl, b, _, dy, _, _, rfl, h2, cl, na_Column_number T, colFs_number, rfl, ?_⟩
        rw [dI]
        exact k
/-! Column.__contains__ -/
def sp_contains (K : PySem.W.Frag) : Sp := fun vs H Q _ => ∃ (c : Addr) (n : Str) (g k : Int) (d x : V) (t : String), vs = [.ref c, x] ∧ ColAt K H c n g d k ∧ TyX K H x (.type t) ∧ Q (.bl (isIn g x)) H
theorem ok_contains (T : Tx K mg) : ∃ fd, FnOk P w K mg base CX0 4 (He.ma K (He.ga K "Column") "__contains__") fd ["self", "x"] (sp_contains K) ∧ Binds K fd ["self", "x"] [] := by
  have C1 := ok_is_within (P := P) (w := w) (base := base) T
  obtain ⟨fd, F⟩ := fd_Column___contains__ T
  refine ⟨fd, F.ok (CX := CX0) sc_Column___contains__ (fun vs H Q E h => ?_) (fun cdv A outer s H vs Q E hr h => ?_), F.bindsN fun _ _ _ _ _ _ us hl => match us, hl with | [_, _], _ => rfl⟩
  · obtain ⟨c, n, g, k, d, x, t, rfl, _⟩ := h
    rfl
  suffices hh : ∃ t, PSs (cxOf CX0 P w K mg base ["self", "x"] "Column.__contains__" (defScope s_Column___contains__) (He.ma K (He.ga K "Column") "__contains__") cdv A outer s H E).nox (defBody s_Column___contains__) t ∧
      t { nx := fun _ H' => Q .non H', rt := Q } (start ["self", "x"] vs) H by
    obtain ⟨t, h1, h2⟩ := hh
    exact ⟨t, h1.nox, h2⟩
  obtain ⟨c, n, g, k, d, x, t, rfl, ⟨dx, hc⟩, ty, kk⟩ := h
  refine ⟨_, pss_one (ps_ret (pcall C1 hr (pa_cons (pv 1) (pa_cons (pe_fld (pv 0) rfl) pa_nil)))), ?_⟩
  exact ⟨_, rfl, _, rfl, c, _, dx, _, _, rfl, hc, cl_Column T, na_Column_greatest T, colFs_greatest, x, g, t, rfl, ty, kk⟩
/-! kind_of -/
def sp_kind_of (K : PySem.W.Frag) : Sp := fun vs H Q _ => ∃ (t : Addr) (c : Ch), vs = [.ref t] ∧ ChAt K H t c ∧ Q (.str c.kind) H
theorem ok_kind_of (T : Tx K mg) : Callee P w K mg base CX0 1 "kind_of" ["change"] [] (sp_kind_of K) := by
  refine mkCallee (fd_kind_of T) (mg_kind_of T) sc_kind_of (fun _ _ _ _ _ _ us hl => match us, hl with | [_], _ => rfl) (fun vs H Q E h => ?_) (fun cdv A outer s H vs Q E hr h => ?_)
  · obtain ⟨t, c, rfl, _⟩ := h
    rfl
  · obtain ⟨t, c, rfl, ht, k⟩ := h
    exact ⟨_, pss_one (ps_ret (pe_ix ix_tup (pv 0) pe_int (fun _ _ => rfl))), _, rfl, t, _, 0, _, rfl, rfl, ht, c.at0, k⟩
/-! add_hindrance -/
def addHind (cs : List Col) (n : Str) (g : Int) (d : V) : V := if (cs.find? (isN n)).isSome = true then .str "alive" else if 6 ≤ cs.length then .str "many" else if isIn g d = true then .non else .str "above"
def sp_add_hindrance (K : PySem.W.Frag) : Sp := fun vs H Q _ => ∃ (l t : Addr) (as : List Addr) (cs : List Col) (x : V) (n : Str) (g : Int) (d : V), vs = [.ref l, x, .ref t] ∧ (SqL K H l (as.map V.ref) ∨ SqT K H l (as.map V.ref)) ∧ Cols K H as cs ∧ Named as cs n x ∧ ChAt K H t (.add n g d) ∧ isVal d = true ∧ Q (addHind cs n g d) H
theorem ok_add_hindrance (T : Tx K mg) : Callee P w K mg base CX0 4 "add_hindrance" ["columns", "namesake", "change"] [] (sp_add_hindrance K) := by
  have C1 := ok_is_within (P := P) (w := w) (base := base) T
  refine mkCallee (fd_add_hindrance T) (mg_add_hindrance T) sc_add_hindrance (fun _ _ _ _ _ _ us hl => match us, hl with | [_, _, _], _ => rfl) (fun vs H Q E h => ?_) (fun cdv A outer s H vs Q E hr h => ?_)
  · obtain ⟨l, t, as, cs, x, n, g, d, rfl, _⟩ := h
    rfl
  · obtain ⟨l, t, as, cs, x, n, g, d, rfl, hl, hc, hx, ht, hd, k⟩ := h
    obtain ⟨tk, gM⟩ := mi_MOST_COLUMNS T
    refine ⟨_, pss_cons (ps_if (pt_cmpR op_notN (pv 1) pe_non (nomark _)) (pss_one (ps_ret pe_str)) pss_nil)
      (pss_cons (ps_if (pt_cmpR op_ge (pe_callB call_len (by rfl) (fr_len T) PySem.boot_len (pa_cons (pv 0) pa_nil)) (pe_glob (v := .int 6) (by rfl) gM ⟨_, rfl⟩) (nomark _)) (pss_one (ps_ret pe_str)) pss_nil)
      (pss_cons (ps_if (pt_not (pt_val (pcall C1 hr (pa_cons (pe_ix ix_tup (pv 2) pe_int (fun _ _ => rfl)) (pa_cons (pe_ix ix_tup (pv 2) pe_int (fun _ _ => rfl)) pa_nil))))) (pss_one (ps_ret pe_str)) pss_nil)
      (pss_one (ps_ret pe_non)))), ?_⟩
    unfold addHind at k
    refine ⟨_, rfl, rfl, _, rfl, ?_⟩
    rcases hx with ⟨rfl, hf⟩ | ⟨i, a, c, rfl, _, _, hf⟩
    · rw [hf] at k
      rw [if_neg (show ¬ (Option.isSome (none : Option Col)) = true by decide)] at k
      refine iteNS rfl ?_
      have hlen : LenV K (.ref l) H cs.length := by
        rcases hl with hl | hl
        · exact .inl ⟨_, hl, by rw [List.length_map]; exact hc.len.symm⟩
        · exact .inr ⟨_, hl, by rw [List.length_map]; exact hc.len.symm⟩
      refine ⟨_, rfl, _, cs.length, rfl, hlen, _, _, rfl, rfl, _, rfl, ?_⟩
      by_cases h6 : 6 ≤ cs.length
      · rw [if_pos h6] at k
        exact iteDT (by omega) k
      · rw [if_neg h6] at k
        have td : ∃ ty, TyX K H d (.type ty) := by
          cases d with
          | non => exact ⟨_, .base .non⟩
          | int i => exact ⟨_, .base (.int i)⟩
          | _ => cases hd
        obtain ⟨ty, td⟩ := td
        refine iteD (by omega) ⟨_, rfl, t, _, 3, _, rfl, rfl, ht, rfl, _, rfl, t, _, 2, _, rfl, rfl, ht, rfl, d, g, ty, rfl, td, _, rfl, ?_⟩
        cases hi : isIn g d with
        | true =>
          rw [hi, if_pos rfl] at k
          exact iteF k
        | false =>
          rw [hi, if_neg (by decide)] at k
          exact iteT k
    · rw [hf] at k
      rw [if_pos (show (Option.isSome (some c)) = true from rfl)] at k
      exact iteNF (by intro z; cases z) k
/-! hindrance -/
/-- the word by which a change cannot be done, or None -/
def hindV (cs : List Col) (c : Ch) : V := match c with
  | .add n g d => addHind cs n g d
  | .drop n => match cs.find? (isN n) with
    | none => .str "unknown"
    | some _ => if cs.length = 1 then .str "only" else .non
  | .rename n m => match cs.find? (isN n) with
    | none => .str "unknown"
    | some _ => if (cs.find? (isN m)).isSome = true then .str "alive" else .non
  | .dflt n v => match cs.find? (isN n) with
    | none => .str "unknown"
    | some e => if isIn e.top v = true then .non else .str "above"
  | .great n g way => match cs.find? (isN n) with
    | none => .str "unknown"
    | some e => if chgV e.name (.great n g way) e.dflt = .str "missing" then .str "default" else .non
  | .fill n i => match cs.find? (isN n) with
    | none => .str "unknown"
    | some e => if isIn e.top (.int i) = true then .non else .str "above"
def sp_hindrance (K : PySem.W.Frag) : Sp := fun vs H Q _ => ∃ (l t : Addr) (as : List Addr) (cs : List Col) (c : Ch), vs = [.ref l, .ref t] ∧ (SqL K H l (as.map V.ref) ∨ SqT K H l (as.map V.ref)) ∧ Cols K H as cs ∧ (∀ e ∈ cs, valOk e.dflt = true) ∧ ChAt K H t c ∧ c.fits = true ∧ ∀ H', Same H H' → Q (hindV cs c) H'
theorem chg_scal {n : Str} {c : Ch} {v : V} (h : valOk v = true) : scal (chgV n c v) (.str "missing") = true := by
  unfold chgV
  split
  · cases c <;> cases v <;> first | cases h | rfl | skip
    all_goals (simp only [abv]; repeat (first | rfl | split))
  · cases v <;> first | rfl | cases h
theorem ok_hindrance (T : Tx K mg) : Callee P w K mg base CX0 5 "hindrance" ["columns", "change"] [] (sp_hindrance K) := by
  have C1 := (ok_column_named (P := P) (w := w) (base := base) T).up (show 1 ≤ 4 by decide)
  have C2 := ok_add_hindrance (P := P) (w := w) (base := base) T
  have C3 := (ok_is_within (P := P) (w := w) (base := base) T).up (show 3 ≤ 4 by decide)
  have C4 := (ok_changed_value (P := P) (w := w) (base := base) T).up (show 2 ≤ 4 by decide)
  refine mkCallee (fd_hindrance T) (mg_hindrance T) sc_hindrance (fun _ _ _ _ _ _ us hl => match us, hl with | [_, _], _ => rfl) (fun vs H Q E h => ?_) (fun cdv A outer s H vs Q E hr h => ?_)
  · obtain ⟨l, t, as, cs, c, rfl, _⟩ := h
    rfl
  · obtain ⟨l, t, as, cs, c, rfl, hl, hc, hd, ht, hf, k⟩ := h
    obtain ⟨tk, gM⟩ := ms_MISSING T
    have nd := sc_hindrance.nd
    refine ⟨_, pss_cons (ps_set (i := 2) nd rfl (Or.inl rfl) (pe_ix ix_tup (pv 1) pe_int (fun _ _ => rfl)))
      (pss_cons (ps_set (i := 3) nd rfl (Or.inl rfl) (pcall C1 hr (pa_cons (pv 0) (pa_cons (pe_ix ix_tup (pv 1) pe_int (fun _ _ => rfl)) pa_nil))))
      (pss_cons (ps_if (pt_cmpR op_eq (pv 2) pe_str (nomark _)) (pss_one (ps_ret (pcall C2 hr (pa_cons (pv 0) (pa_cons (pv 3) (pa_cons (pv 1) pa_nil)))))) pss_nil)
      (pss_cons (ps_if (pt_cmpR op_isN (pv 3) pe_non (nomark _)) (pss_one (ps_ret pe_str)) pss_nil)
      (pss_cons (ps_if (PW.pt (pw_and (pt_cmpR op_eq (pv 2) pe_str (nomark _)) (pw_and1 (pt_cmpR op_notN (pcall C1 hr (pa_cons (pv 0) (pa_cons (pe_ix ix_tup (pv 1) pe_int (fun _ _ => rfl)) pa_nil))) pe_non (nomark _))))) (pss_one (ps_ret pe_str)) pss_nil)
      (pss_cons (ps_if (PW.pt (pw_and (pt_cmpR op_eq (pv 2) pe_str (nomark _)) (pw_and1 (pt_cmpR op_eq (pe_callB call_len (by rfl) (fr_len T) PySem.boot_len (pa_cons (pv 0) pa_nil)) pe_int (nomark _))))) (pss_one (ps_ret pe_str)) pss_nil)
      (pss_cons (ps_if (PW.pt (pw_and (pt_cmpR op_in_seq (pv 2) (pe_tup (pa_cons pe_str (pa_cons pe_str pa_nil))) (by rfl)) (pw_and1 (pt_not (pt_val (pcall C3 hr (pa_cons (pe_ix ix_tup (pv 1) pe_int (fun _ _ => rfl)) (pa_cons (pe_fld (pv 3) rfl) pa_nil))))))))
        (pss_one (ps_ret pe_str)) pss_nil)
      (pss_cons (ps_if (PW.pt (pw_and (pt_cmpR op_eq (pv 2) pe_str (nomark _)) (pw_and1 (pt_cmpR op_eq (pcall C4 hr (pa_cons (pv 3) (pa_cons (pv 1) (pa_cons (pe_fld (pv 3) rfl) pa_nil)))) (pe_glob (v := .str "missing") (by rfl) gM ⟨_, rfl⟩) (nomark _))))) (pss_one (ps_ret pe_str)) pss_nil)
      (pss_one (ps_ret pe_non))))))))), ?_⟩
    have hlen : ∀ H', Same H H' → LenV K (.ref l) H' cs.length := fun H' s' => by
      rcases hl with hl | hl
      · exact .inl ⟨_, s'.seq hl, by rw [List.length_map]; exact hc.len.symm⟩
      · exact .inr ⟨_, same_tup s' hl, by rw [List.length_map]; exact hc.len.symm⟩
    refine ⟨_, rfl, t, _, 0, _, rfl, rfl, ht, c.at0, ?_⟩
    refine ⟨_, rfl, _, rfl, t, _, 1, _, rfl, rfl, ht, c.at1, l, as, cs, c.name, rfl, hl, hc, fun x hx => ?_⟩
    have kn : ∀ v, hindV cs c = v → ∀ H', Same H H' → Q v H' := fun v e H' s' => by
      rw [← e]
      exact k H' s'
    have nn : ∀ a, ¬ V.ref a = V.non := fun a z => by cases z
    cases c with
    | add n g d =>
      have hf' : (isNm (.str n) && (isGr (.int g) && isVal d)) = true := hf
      rw [Bool.and_eq_true, Bool.and_eq_true] at hf'
      exact ⟨_, rfl, rfl, _, rfl, iteDT rfl ⟨_, rfl, _, rfl, _, rfl, l, t, as, cs, x, n, g, d, rfl, hl, hc, hx, ht, hf'.2.2, kn _ rfl H (Same.refl _)⟩⟩
    | drop n =>
      refine ⟨_, rfl, rfl, _, rfl, iteD (nes (show ("drop" : Str) ≠ "add" by decide +kernel)) ⟨_, rfl, rfl, _, rfl, ?_⟩⟩
      rcases hx with ⟨rfl, hx⟩ | ⟨i, a, e, rfl, hia, hie, hx⟩
      · have hx' : cs.find? (isN n) = none := hx
        exact iteDT rfl (kn _ (by simp only [hindV, hx']) H (Same.refl _))
      have hx' : cs.find? (isN n) = some e := hx
      refine iteD (nn a) ⟨_, rfl, rfl, _, rfl, iteD (nes (show ("drop" : Str) ≠ "rename" by decide +kernel)) (iteF ⟨_, rfl, rfl, _, rfl, iteDT rfl ⟨_, rfl, _, cs.length, rfl, hlen _ (Same.refl _), rfl, _, rfl, ?_⟩⟩)⟩
      by_cases h1 : cs.length = 1
      · exact iteDT (by rw [h1]; rfl) (kn _ (by simp only [hindV, hx']; rw [if_pos h1]) H (Same.refl _))
      · refine iteD (nei (by omega)) ?_
        exact ⟨_, rfl, (by show 2 ≤ sizeLine; decide), fun t2 nt2 => ⟨t2, _, rfl, .inr (sqT_of upd_same), rfl, rfl, _, rfl, iteF (iteF ⟨_, rfl, rfl, _, rfl, iteD (nes (show ("drop" : Str) ≠ "greatest" by decide +kernel)) (iteF (kn _ (by simp only [hindV, hx']; rw [if_neg h1]) _ (same_new nt2)))⟩)⟩⟩
    | rename n m =>
      refine ⟨_, rfl, rfl, _, rfl, iteD (nes (show ("rename" : Str) ≠ "add" by decide +kernel)) ⟨_, rfl, rfl, _, rfl, ?_⟩⟩
      rcases hx with ⟨rfl, hx⟩ | ⟨i, a, e, rfl, hia, hie, hx⟩
      · have hx' : cs.find? (isN n) = none := hx
        exact iteDT rfl (kn _ (by simp only [hindV, hx']) H (Same.refl _))
      have hx' : cs.find? (isN n) = some e := hx
      have i2 : atI (Ch.rename n m).toV 2 = some (.str m) := rfl
      refine iteD (nn a) ⟨_, rfl, rfl, _, rfl, iteDT rfl ⟨_, rfl, _, rfl, t, _, 2, _, rfl, rfl, ht, i2, l, as, cs, m, rfl, hl, hc, fun y hy => ⟨rfl, _, rfl, ?_⟩⟩⟩
      rcases hy with ⟨rfl, hy⟩ | ⟨i', a', e', rfl, _, _, hy⟩
      · refine iteNS rfl ⟨_, rfl, rfl, _, rfl, iteD (nes (show ("rename" : Str) ≠ "drop" by decide +kernel)) (iteF ?_)⟩
        exact ⟨_, rfl, (by show 2 ≤ sizeLine; decide), fun t2 nt2 => ⟨t2, _, rfl, .inr (sqT_of upd_same), rfl, rfl, _, rfl, iteF (iteF ⟨_, rfl, rfl, _, rfl, iteD (nes (show ("rename" : Str) ≠ "greatest" by decide +kernel)) (iteF (kn _ (by simp only [hindV, hx', hy]; rfl) _ (same_new nt2)))⟩)⟩⟩
      · exact iteNF (nn _) (kn _ (by simp only [hindV, hx', hy]; rfl) H (Same.refl _))
    | dflt n v =>
      refine ⟨_, rfl, rfl, _, rfl, iteD (nes (show ("default" : Str) ≠ "add" by decide +kernel)) ⟨_, rfl, rfl, _, rfl, ?_⟩⟩
      rcases hx with ⟨rfl, hx⟩ | ⟨i, a, e, rfl, hia, hie, hx⟩
      · have hx' : cs.find? (isN n) = none := hx
        exact iteDT rfl (kn _ (by simp only [hindV, hx']) H (Same.refl _))
      have hx' : cs.find? (isN n) = some e := hx
      obtain ⟨e2, he2, dx, hat⟩ := hc.at_ hia
      obtain rfl : e = e2 := Option.some.inj (hie.symm.trans he2)
      have i2 : atI (Ch.dflt n v).toV 2 = some v := rfl
      refine iteD (nn a) ⟨_, rfl, rfl, _, rfl, iteD (nes (show ("default" : Str) ≠ "rename" by decide +kernel)) (iteF ⟨_, rfl, rfl, _, rfl, iteD (nes (show ("default" : Str) ≠ "drop" by decide +kernel)) (iteF ⟨_, rfl, (by show 2 ≤ sizeLine; decide), fun t2 nt2 => ⟨t2, _, rfl, .inr (sqT_of upd_same), rfl, rfl, _, rfl, iteT ?_⟩⟩)⟩)⟩
      have s2 := same_new (o := .tup [V.str "default", .str "fill"]) nt2
      have tv : ∃ ty, ∀ H : Hp, TyX K H v (.type ty) := by
        have hv : (isNm (.str n) && isVal v) = true := hf
        rw [Bool.and_eq_true] at hv
        cases v with
        | non => exact ⟨_, fun _ => .base .non⟩
        | int i => exact ⟨_, fun _ => .base (.int i)⟩
        | _ => cases hv.2
      obtain ⟨ty, tv⟩ := tv
      refine ⟨_, rfl, t, _, 2, _, rfl, rfl, same_tup s2 ht, i2, _, rfl, a, _, dx, _, _, rfl, s2 _ _ hat, cl_Column T, na_Column_greatest T, colFs_greatest, v, e.top, ty, rfl, tv _, _, rfl, ?_⟩
      cases hi : isIn e.top v with
      | true => exact iteF (nxt ⟨_, rfl, rfl, _, rfl, iteD (nes (show ("default" : Str) ≠ "greatest" by decide +kernel)) (iteF (nxt (kn _ (by simp only [hindV, hx']; rw [if_pos hi]) _ s2)))⟩)
      | false => exact iteT (kn _ (by simp only [hindV, hx']; rw [if_neg (by rw [hi]; decide)]) _ s2)
    | fill n v =>
      refine ⟨_, rfl, rfl, _, rfl, iteD (nes (show ("fill" : Str) ≠ "add" by decide +kernel)) ⟨_, rfl, rfl, _, rfl, ?_⟩⟩
      rcases hx with ⟨rfl, hx⟩ | ⟨i, a, e, rfl, hia, hie, hx⟩
      · have hx' : cs.find? (isN n) = none := hx
        exact iteDT rfl (kn _ (by simp only [hindV, hx']) H (Same.refl _))
      have hx' : cs.find? (isN n) = some e := hx
      obtain ⟨e2, he2, dx, hat⟩ := hc.at_ hia
      obtain rfl : e = e2 := Option.some.inj (hie.symm.trans he2)
      have i2 : atI (Ch.fill n v).toV 2 = some (.int v) := rfl
      refine iteD (nn a) ⟨_, rfl, rfl, _, rfl, iteD (nes (show ("fill" : Str) ≠ "rename" by decide +kernel)) (iteF ⟨_, rfl, rfl, _, rfl, iteD (nes (show ("fill" : Str) ≠ "drop" by decide +kernel)) (iteF ⟨_, rfl, (by show 2 ≤ sizeLine; decide), fun t2 nt2 => ⟨t2, _, rfl, .inr (sqT_of upd_same), rfl, rfl, _, rfl, iteT ?_⟩⟩)⟩)⟩
      have s2 := same_new (o := .tup [V.str "default", .str "fill"]) nt2
      have tv : ∃ ty, ∀ H : Hp, TyX K H (.int v) (.type ty) := ⟨_, fun _ => .base (.int v)⟩
      obtain ⟨ty, tv⟩ := tv
      refine ⟨_, rfl, t, _, 2, _, rfl, rfl, same_tup s2 ht, i2, _, rfl, a, _, dx, _, _, rfl, s2 _ _ hat, cl_Column T, na_Column_greatest T, colFs_greatest, (.int v), e.top, ty, rfl, tv _, _, rfl, ?_⟩
      cases hi : isIn e.top (.int v) with
      | true => exact iteF (nxt ⟨_, rfl, rfl, _, rfl, iteD (nes (show ("fill" : Str) ≠ "greatest" by decide +kernel)) (iteF (nxt (kn _ (by simp only [hindV, hx']; rw [if_pos hi]) _ s2)))⟩)
      | false => exact iteT (kn _ (by simp only [hindV, hx']; rw [if_neg (by rw [hi]; decide)]) _ s2)
    | great n g way =>
      refine ⟨_, rfl, rfl, _, rfl, iteD (nes (show ("greatest" : Str) ≠ "add" by decide +kernel)) ⟨_, rfl, rfl, _, rfl, ?_⟩⟩
      rcases hx with ⟨rfl, hx⟩ | ⟨i, a, e, rfl, hia, hie, hx⟩
      · have hx' : cs.find? (isN n) = none := hx
        exact iteDT rfl (kn _ (by simp only [hindV, hx']) H (Same.refl _))
      have hx' : cs.find? (isN n) = some e := hx
      obtain ⟨e2, he2, dx, hat⟩ := hc.at_ hia
      obtain rfl : e = e2 := Option.some.inj (hie.symm.trans he2)
      have hde := hd e (List.mem_of_getElem? hie)
      refine iteD (nn a) ⟨_, rfl, rfl, _, rfl, iteD (nes (show ("greatest" : Str) ≠ "rename" by decide +kernel)) (iteF ⟨_, rfl, rfl, _, rfl, iteD (nes (show ("greatest" : Str) ≠ "drop" by decide +kernel)) (iteF ⟨_, rfl, (by show 2 ≤ sizeLine; decide), fun t2 nt2 => ⟨t2, _, rfl, .inr (sqT_of upd_same), rfl, rfl, _, rfl, iteF (iteF ?_)⟩⟩)⟩)⟩
      have s2 := same_new (o := .tup [V.str "default", .str "fill"]) nt2
      refine ⟨_, rfl, rfl, _, rfl, iteDT rfl ⟨_, rfl, _, rfl, _, rfl, a, _, dx, _, _, rfl, s2 _ _ hat, cl_Column T, na_Column_default T, colFs_default, a, t, e.name, e.top, e.num, e.dflt, e.dflt, .great n g way, rfl, ⟨dx, s2 _ _ hat⟩, same_tup s2 ht, hde, chg_scal hde, _, rfl, ?_⟩⟩
      by_cases hm : chgV e.name (.great n g way) e.dflt = .str "missing"
      · exact iteDT hm (kn _ (by simp only [hindV, hx']; rw [if_pos hm]) _ s2)
      · exact iteD hm (nxt (kn _ (by simp only [hindV, hx']; rw [if_neg hm]) _ s2))
/-! why_not, at what is a change -/
theorem ok_why_not (T : Tx K mg) : Callee P w K mg base CX0 6 "why_not" ["columns", "change"] [] (sp_hindrance K) := by
  have C1 := ok_is_change (P := P) (w := w) (base := base) T
  have C2 := ok_hindrance (P := P) (w := w) (base := base) T
  refine mkCallee (fd_why_not T) (mg_why_not T) sc_why_not (fun _ _ _ _ _ _ us hl => match us, hl with | [_, _], _ => rfl) (fun vs H Q E h => ?_) (fun cdv A outer s H vs Q E hr h => ?_)
  · obtain ⟨l, t, as, cs, c, rfl, _⟩ := h
    rfl
  · obtain ⟨l, t, as, cs, c, rfl, hl, hc, hd, ht, hf, k⟩ := h
    refine ⟨_, pss_cons (ps_if (pt_not (pt_val (pcall C1 hr (pa_cons (pv 1) pa_nil)))) (pss_one ps_never) pss_nil) (pss_one (ps_ret (pcall C2 hr (pa_cons (pv 0) (pa_cons (pv 1) pa_nil))))), ?_⟩
    refine ⟨_, rfl, t, c, rfl, ht, hf, fun H1 s1 => ⟨_, rfl, iteF ⟨_, rfl, _, rfl, l, t, as, cs, c, rfl, ?_, hc.keep s1, hd, ht.keep s1, hf, fun H' s' => k H' (s1.trans s')⟩⟩⟩
    exact hl.imp (fun h => s1.seq h) (fun h => same_tup s1 h)
/-! columns_behind -/
/-- the columns behind a change -/
def behind (cs : List Col) (ch : Ch) (num : Int) : List Col := match ch with
  | .add n g d => cs ++ [⟨n, g, d, num⟩]
  | .drop n => cs.filter fun c => !decide (c.name = n)
  | ch => cs.map fun c => if c.name = ch.name then chgC c ch else c
theorem Cols.all {K : PySem.W.Frag} {H : Hp} : ∀ {as : List Addr} {cs : List Col}, as.length = cs.length → (∀ (i : Nat) (a : Addr) (c : Col), as[i]? = some a → cs[i]? = some c → ColA K H a c) → Cols K H as cs
  | [], [], _, _ => .nil
  | [], _ :: _, h, _ => by cases h
  | _ :: _, [], h, _ => by cases h
  | a :: as, c :: cs, h, f => .cons (f 0 a c rfl rfl) (Cols.all (Nat.succ.inj h) fun i a' c' h1 h2 => f (i + 1) a' c' (by simpa using h1) (by simpa using h2))
theorem Cols.two {K : PySem.W.Frag} {H : Hp} {as : List Addr} {cs : List Col} {i : Nat} {a : Addr} {c : Col} (h : Cols K H as cs) (h1 : as[i]? = some a) (h2 : cs[i]? = some c) : ColA K H a c := by
  obtain ⟨c', e, q⟩ := h.at_ h1
  obtain rfl : c = c' := Option.some.inj (h2.symm.trans e)
  exact q
theorem Cols.app {K : PySem.W.Frag} {H : Hp} : ∀ {as bs : List Addr} {cs ds : List Col}, Cols K H as cs → Cols K H bs ds → Cols K H (as ++ bs) (cs ++ ds)
  | _, _, _, _, .nil, h => h
  | _, _, _, _, .cons h t, q => .cons h (t.app q)
/-- the addresses whose columns pass -/
def keepA (f : Col → Bool) : List Addr → List Col → List Addr
  | a :: as, c :: cs => if f c = true then a :: keepA f as cs else keepA f as cs
  | _, _ => []
theorem Cols.filter {K : PySem.W.Frag} {H : Hp} (f : Col → Bool) : ∀ {as : List Addr} {cs : List Col}, Cols K H as cs → Cols K H (keepA f as cs) (cs.filter f)
  | _, _, .nil => .nil
  | _, _, .cons (c := c) h t => by
    have ih := t.filter f
    unfold keepA
    rw [List.filter_cons]
    split
    · exact .cons h ih
    · exact ih
def sp_columns_behind (K : PySem.W.Frag) : Sp := fun vs H Q _ => ∃ (l t : Addr) (as : List Addr) (cs : List Col) (ch : Ch) (num : Int), vs = [.ref l, .ref t, .int num] ∧ SqL K H l (as.map V.ref) ∧ Cols K H as cs ∧ ChAt K H t ch ∧ as.length ≤ 1000 ∧ 0 ≤ num ∧
  (∀ c ∈ cs, ColOk c) ∧ (∀ c ∈ behind cs ch num, ColOk c) ∧ ∀ (l' : Addr) (as' : List Addr) (H' : Hp), H l' = none → Same H H' → H' l' = some (.lst (as'.map V.ref)) → Cols K H' as' (behind cs ch num) → Q (.ref l') H'
/-- the addresses among what a comprehension over the columns keeps -/
theorem keep_map {K : PySem.W.Frag} {H : Hp} (f : Col → Bool) (g : V → Bool) : ∀ {as : List Addr} {cs : List Col}, Cols K H as cs → (∀ a c, ColA K H a c → a ∈ as → g (.ref a) = f c) → ((as.map V.ref).filter g).map (fun x => x) = (keepA f as cs).map V.ref
  | _, _, .nil, _ => rfl
  | _, _, .cons (a := a) (c := c) h t, q => by
    have ih := keep_map f g t fun a' c' h' hm => q a' c' h' (List.mem_cons_of_mem _ hm)
    have e := q a c h List.mem_cons_self
    rw [List.map_id'] at ih ⊢
    unfold keepA
    rw [List.map_cons, List.filter_cons, e]
    split
    · rw [List.map_cons, ih]
    · exact ih
open Classical in
noncomputable def drF (K : PySem.W.Frag) (H : Hp) (n : Str) (x : V) : Bool := decide (∃ a c, x = .ref a ∧ ColA K H a c ∧ ¬ c.name = n)
theorem ColA.name_ {K : PySem.W.Frag} {H : Hp} {a : Addr} {c c' : Col} (h : ColA K H a c) (h' : ColA K H a c') : c.name = c'.name := by
  obtain ⟨dx, h⟩ := h
  obtain ⟨dx', h'⟩ := h'
  rw [h] at h'
  have e := (HO.ins.inj (Option.some.inj h')).2.2
  unfold colFs at e
  exact V.str.inj (congrArg Prod.snd (List.cons.inj e).1)
open Classical in
theorem drF_eq {K : PySem.W.Frag} {H : Hp} {n : Str} {a : Addr} {c : Col} (h : ColA K H a c) : drF K H n (.ref a) = !decide (c.name = n) := by
  unfold drF
  by_cases e : c.name = n
  · rw [decide_eq_true e, decide_eq_false]
    · rfl
    · rintro ⟨a', c', e', h', ne⟩
      cases e'
      exact ne ((h'.name_ h).trans e)
  · rw [decide_eq_false e, decide_eq_true]
    · rfl
    · exact ⟨a, c, rfl, h, e⟩
theorem Cols.of_vs {K : PySem.W.Frag} {H : Hp} : ∀ {ys : List V} {cs : List Col}, ys.length = cs.length → (∀ (i : Nat) (y : V), ys[i]? = some y → ∃ a c, y = .ref a ∧ cs[i]? = some c ∧ ColA K H a c) → ∃ as, ys = as.map V.ref ∧ Cols K H as cs
  | [], [], _, _ => ⟨[], rfl, .nil⟩
  | [], _ :: _, h, _ => by cases h
  | _ :: _, [], h, _ => by cases h
  | y :: ys, c :: cs, h, f => by
    obtain ⟨a, c', rfl, e, hc⟩ := f 0 y rfl
    obtain rfl : c = c' := Option.some.inj e
    obtain ⟨as, rfl, ht⟩ := Cols.of_vs (ys := ys) (cs := cs) (Nat.succ.inj h) fun i y' h1 => f (i + 1) y' (by simpa using h1)
    exact ⟨a :: as, rfl, .cons hc ht⟩
theorem ok_columns_behind (T : Tx K mg) : Callee P w K mg base CX0 8 "columns_behind" ["columns", "change", "number"] [] (sp_columns_behind K) := by
  have C1 := ok_changed_column (P := P) (w := w) (base := base) T
  obtain ⟨fdI, GI, FI⟩ := ok_Col_init (P := P) (w := w) (base := base) T
  obtain ⟨_, _, kb⟩ := kbinds_Col T FI
  have cl := cl_Column T
  refine mkCallee (fd_columns_behind T) (mg_columns_behind T) sc_columns_behind (fun _ _ _ _ _ _ us hl => match us, hl with | [_, _, _], _ => rfl) (fun vs H Q E h => ?_) (fun cdv A outer s H vs Q E hr h => ?_)
  · obtain ⟨l, t, as, cs, ch, num, rfl, _⟩ := h
    rfl
  · obtain ⟨l, t, as, cs, ch, num, rfl, hl, hc, ht, hlen, hnum, okc, okb, k⟩ := h
    have nd := sc_columns_behind.nd
    refine ⟨_, pss_cons (ps_set (i := 3) nd rfl (Or.inl rfl) (pe_ix ix_tup (pv 1) pe_int (fun _ _ => rfl)))
      (pss_cons (ps_set (i := 4) nd rfl (Or.inr rfl) (pe_ix ix_tup (pv 1) pe_int (fun _ _ => rfl)))
      (pss_cons (ps_if (pt_cmpR op_eq (pv 3) pe_str (nomark _)) (pss_one (ps_ret (pe_op op_cat (pe_callTy call_list_of (by rfl) (fr_list T) (by decide +kernel) (pa_cons (pv 0) pa_nil))
          (pe_lst (pa_cons (pe_makeK (mk_Column T) GI (hr.mono (by decide)) (by rfl) (mg_Column T) kb pass0 (pa_cons (pv 4) (pa_cons (pe_ix ix_tup (pv 1) pe_int (fun _ _ => rfl)) (pa_cons (pe_ix ix_tup (pv 1) pe_int (fun _ _ => rfl)) pa_nil))) (pk_cons (pv 2) pk_nil)) pa_nil))))) pss_nil)
      (pss_cons (ps_if (pt_cmpR op_eq (pv 3) pe_str (nomark _)) (pss_one (ps_ret (pe_lc (own := [("column", 5)]) (g := gName 5) (tt := tTest (tOp rNe (tFld K (tVar 5) "name") (tVar 4))) (te := tVar 5) rfl nd (pi_list (pv 0)) (blkOk_by (N := ["columns", "change", "number", "kind", "name", "column"]) (sc := defScope s_columns_behind) (by decide +kernel))
          (fun _ _ _ _ _ => pg_name (i := 5) nd rfl (Or.inl rfl)) (fun _ _ _ _ _ => pts_one (pt_cmpR op_ne (pe_fld (pv 5) rfl) (pv 4) (nomark _))) (fun _ _ _ _ _ => pv 5)))) pss_nil)
      (pss_one (ps_ret (pe_lc (own := [("column", 5)]) (g := gName 5) (tt := tYes) (te := tIf (tTest (tOp rEq (tFld K (tVar 5) "name") (tVar 4))) (tCall (sp_changed_column K) [] E0 (tCons (tVar 5) (tCons (tVar 1) tNil))) (tVar 5)) rfl nd (pi_list (pv 0)) (blkOk_by (N := ["columns", "change", "number", "kind", "name", "column"]) (sc := defScope s_columns_behind) (by decide +kernel))
          (fun _ _ _ _ _ => pg_name (i := 5) nd rfl (Or.inl rfl)) (fun _ _ _ _ _ => pts_nil) (fun _ _ _ _ _ => pe_ifExp (pt_cmpR op_eq (pe_fld (pv 5) rfl) (pv 4) (nomark _)) (pcall C1 hr (pa_cons (pv 5) (pa_cons (pv 1) pa_nil))) (pv 5)))))))), ?_⟩
    refine ⟨_, rfl, t, _, 0, _, rfl, rfl, ht, ch.at0, ?_⟩
    refine ⟨_, rfl, t, _, 1, _, rfl, rfl, ht, ch.at1, ?_⟩
    refine ⟨_, rfl, rfl, _, rfl, ?_⟩
    have other : ∀ ch' : Ch, ch' = ch → behind cs ch' num = cs.map (fun c => if c.name = ch'.name then chgC c ch' else c) → tRet (tLc (iList K (tVar 0)) (gName 5) tYes (tIf (tTest (tOp rEq (tFld K (tVar 5) "name") (tVar 4))) (tCall (sp_changed_column K) [] E0 (tCons (tVar 5) (tCons (tVar 1) tNil))) (tVar 5)) (List.map (fun x => x.2) [(("column" : Str), 5)]))
        { nx := fun _ H' => Q V.non H', rt := Q } [some (.ref l), some (.ref t), some (.int num), some (.str ch'.kind), some (.str ch'.name), none] H := fun ch' e0 e1 => by
      subst e0
      refine tlc_G (fun i y H' => ∃ a c, y = .ref a ∧ (behind cs ch' num)[i]? = some c ∧ ColA K H' a c) (fun i y H1 H2 s2 ⟨a, c, h1, h2, h3⟩ => ⟨a, c, h1, h2, h3.keepNL s2⟩) (fun R h => ⟨_, rfl, h l H (Same.refl _) hl⟩) (by rw [List.length_map]; omega) (fun _ => rfl) ?_ ?_
      · intro i x hx H1 s1 R hR
        rw [List.getElem?_map] at hx
        cases ha : as[i]? with
        | none =>
          rw [ha] at hx
          cases hx
        | some a =>
          rw [ha] at hx
          obtain rfl := Option.some.inj hx
          obtain ⟨c, hci, dx, hat⟩ := hc.at_ ha
          have hb : (behind cs ch' num)[i]? = some (if c.name = ch'.name then chgC c ch' else c) := by rw [e1, List.getElem?_map, hci]; rfl
          refine ⟨_, rfl, a, _, dx, _, _, rfl, s1 _ _ hat, cl, na_Column_name T, colFs_name, _, rfl, rfl, _, rfl, ?_⟩
          by_cases e : c.name = ch'.name
          · rw [if_pos e] at hb
            rw [decide_eq_true (show V.str c.name = V.str ch'.name by rw [e])]
            exact iteT ⟨_, rfl, _, rfl, a, t, c, ch', rfl, ⟨dx, s1 _ _ hat⟩, ht.keep s1, okc _ (List.mem_of_getElem? hci), okb _ (List.mem_of_getElem? hb), fun a' H2 s2 h2 => hR _ _ s2 ⟨a', _, rfl, hb, h2⟩⟩
          · rw [if_neg e] at hb
            rw [decide_eq_false (fun z => e (V.str.inj z))]
            exact iteF ⟨_, rfl, hR _ _ (Same.refl _) ⟨a, _, rfl, hb, dx, s1 _ _ hat⟩⟩
      · intro D ys H' nD s' hD hlen' hy
        obtain ⟨as', rfl, hcs⟩ := Cols.of_vs (by rw [hlen', List.length_map, hc.len, e1, List.length_map]) hy
        exact k D as' H' nD s' hD hcs
    cases ch with
    | add n g d =>
      have i2 : atI (Ch.add n g d).toV 2 = some (.int g) := rfl
      have i3 : atI (Ch.add n g d).toV 3 = some d := rfl
      have okn : ColOk ⟨n, g, d, num⟩ := okb _ (List.mem_append_right _ (List.mem_singleton.mpr rfl))
      refine iteDT rfl ⟨_, rfl, l, _, rfl, .inl hl, fun p np => ?_⟩
      have s1 : Same H (upd H p (.lst (as.map V.ref))) := same_new np
      have hp : upd H p (.lst (as.map V.ref)) p = some (.lst (as.map V.ref)) := upd_same
      generalize upd H p (.lst (as.map V.ref)) = H1 at s1 hp ⊢
      refine ⟨_, rfl, _, rfl, t, _, 2, _, rfl, rfl, ht.keep s1, i2, _, rfl, t, _, 3, _, rfl, rfl, ht.keep s1, i3, _, rfl, rfl, rfl, fun x dx2 nx ndx ndc => ?_⟩
      refine ⟨x, dx2, n, g, num, d, rfl, upd_same, okn.nm, okn.gr, okn.df, okn.nu, fun H4 hc4 k4 => ⟨rfl, ?_⟩⟩
      have s4 : Same H1 H4 := fun b o e => k4 b o (ne_of_none e nx) (by rw [upd_ne (ne_of_none e nx), upd_ne (ne_of_none e ndx)]; exact e)
      refine ⟨by show 1 ≤ sizeLine; decide, fun q nq => ⟨p, q, as.map V.ref, [.ref x], rfl, rfl, ?_, upd_same, ?_, fun l' nl' => ?_⟩⟩
      · exact same_new nq _ _ (s4 _ _ hp)
      · rw [List.length_map]
        exact Nat.le_trans (Nat.add_le_add_right hlen 1) (by decide)
      · have s5 : Same H (upd (upd H4 q (.lst [.ref x])) l' (.lst (as.map V.ref ++ [.ref x]))) := s1.trans (s4.trans ((same_new nq).trans (same_new nl')))
        refine k l' (as ++ [x]) _ ?_ s5 (by rw [List.map_append]; exact upd_same) ((hc.keep s5).app (.cons (ColAt.keep ((same_new nq).trans (same_new nl')) hc4) .nil))
        cases h0 : H l' with
        | none => rfl
        | some o => exact absurd ((s1.trans (s4.trans (same_new nq))) _ _ h0) (by rw [nl']; intro z; cases z)
    | drop n =>
      refine iteD (nes (show ("drop" : Str) ≠ "add" by decide +kernel)) ⟨_, rfl, rfl, _, rfl, iteDT rfl ?_⟩
      refine tlc_L (drF K H n) (fun x => x) (fun R h => ⟨_, rfl, h l H (Same.refl _) hl⟩) (by rw [List.length_map]; omega) (fun _ => rfl) ?_ (fun x _ _ H1 _ R h => ⟨_, rfl, h H1 (Same.refl _)⟩) ?_
      · intro x hx H1 s1 R hR
        obtain ⟨a, ha, rfl⟩ := List.mem_map.mp hx
        obtain ⟨i, hi⟩ := List.mem_iff_getElem?.mp ha
        obtain ⟨c, hc1, dx, hat⟩ := hc.at_ hi
        rw [drF_eq (c := c) ⟨dx, hat⟩] at hR
        have e : decide (V.str c.name = V.str n) = decide (c.name = n) := by
          by_cases e : c.name = n
          · rw [decide_eq_true e, decide_eq_true (by rw [e])]
          · rw [decide_eq_false e, decide_eq_false (fun z => e (V.str.inj z))]
        rw [← e] at hR
        exact ⟨_, rfl, a, _, dx, _, _, rfl, s1 _ _ hat, cl, na_Column_name T, colFs_name, _, rfl, rfl, _, rfl, hR _ (Same.refl _)⟩
      · intro D H' nD s' hD
        rw [keep_map (fun c => !decide (c.name = n)) (drF K H n) hc fun a c h _ => drF_eq h] at hD
        exact k D _ H' nD s' hD ((hc.keep s').filter _)
    | rename n m =>
      exact iteD (nes (show ("rename" : Str) ≠ "add" by decide +kernel)) ⟨_, rfl, rfl, _, rfl, iteD (nes (show ("rename" : Str) ≠ "drop" by decide +kernel)) (other _ rfl rfl)⟩
    | great n g way =>
      exact iteD (nes (show ("greatest" : Str) ≠ "add" by decide +kernel)) ⟨_, rfl, rfl, _, rfl, iteD (nes (show ("greatest" : Str) ≠ "drop" by decide +kernel)) (other _ rfl rfl)⟩
    | dflt n v =>
      exact iteD (nes (show ("default" : Str) ≠ "add" by decide +kernel)) ⟨_, rfl, rfl, _, rfl, iteD (nes (show ("default" : Str) ≠ "drop" by decide +kernel)) (other _ rfl rfl)⟩
    | fill n v =>
      exact iteD (nes (show ("fill" : Str) ≠ "add" by decide +kernel)) ⟨_, rfl, rfl, _, rfl, iteD (nes (show ("fill" : Str) ≠ "drop" by decide +kernel)) (other _ rfl rfl)⟩
/-! columns of an edition; what stays right behind a change -/
structure Good (cs : List Col) (n : Int) : Prop where
  ok : ∀ c ∈ cs, ColOk c ∧ c.num < n
  one : 1 ≤ cs.length
  six : cs.length ≤ 6
  names : (cs.map (·.name)).Nodup
  nn : 0 ≤ n
def numThen (ch : Ch) (n : Int) : Int := match ch with
  | .add _ _ _ => n + 1
  | _ => n
theorem kind_add {ch : Ch} {n : Int} (h : ch.kind = "add") : numThen ch n = n + 1 := by
  cases ch with
  | add _ _ _ => rfl
  | drop _ => exact absurd (show ("drop" : Str) = "add" from h) (by decide +kernel)
  | rename _ _ => exact absurd (show ("rename" : Str) = "add" from h) (by decide +kernel)
  | dflt _ _ => exact absurd (show ("default" : Str) = "add" from h) (by decide +kernel)
  | great _ _ _ => exact absurd (show ("greatest" : Str) = "add" from h) (by decide +kernel)
  | fill _ _ => exact absurd (show ("fill" : Str) = "add" from h) (by decide +kernel)
theorem kind_noadd {ch : Ch} {n : Int} (h : ¬ ch.kind = "add") : numThen ch n = n := by
  cases ch with
  | add _ _ _ => exact absurd rfl h
  | _ => rfl
theorem find_uniq {n : Str} : ∀ {cs : List Col} {c : Col}, (cs.map (·.name)).Nodup → c ∈ cs → c.name = n → cs.find? (isN n) = some c
  | [], _, _, h, _ => by cases h
  | e :: cs, c, nd, h, hn => by
    rw [List.map_cons, List.nodup_cons] at nd
    rw [List.find?_cons]
    rcases List.mem_cons.mp h with rfl | h
    · rw [show isN n c = true from decide_eq_true hn]
    · have ne : ¬ e.name = n := fun z => nd.1 (List.mem_map.mpr ⟨c, h, hn.trans z.symm⟩)
      rw [show isN n e = false from decide_eq_false ne]
      exact find_uniq nd.2 h hn
theorem find_no {n : Str} {cs : List Col} (h : cs.find? (isN n) = none) : n ∉ cs.map (·.name) := fun hm => by
  obtain ⟨c, hc, e⟩ := List.mem_map.mp hm
  exact List.find?_eq_none.mp h c hc (decide_eq_true e)
theorem filter_same {n : Str} {cs : List Col} (h : n ∉ cs.map (·.name)) : cs.filter (fun c => !decide (c.name = n)) = cs := by
  rw [List.filter_eq_self]
  intro c hc
  rw [decide_eq_false (fun z => h (List.mem_map.mpr ⟨c, hc, z⟩))]
  rfl
theorem drop_len {n : Str} : ∀ {cs : List Col}, (cs.map (·.name)).Nodup → cs.length ≤ (cs.filter (fun c => !decide (c.name = n))).length + 1
  | [], _ => Nat.zero_le _
  | e :: cs, nd => by
    rw [List.map_cons, List.nodup_cons] at nd
    rw [List.filter_cons]
    by_cases h : e.name = n
    · rw [if_neg (by rw [decide_eq_true h]; decide), filter_same (by rw [← h]; exact nd.1)]
      exact Nat.le_refl _
    · rw [if_pos (by rw [decide_eq_false h]; rfl), List.length_cons, List.length_cons]
      have := drop_len (n := n) nd.2
      omega
theorem names_map {cs : List Col} {f : Col → Col} (nd : (cs.map (·.name)).Nodup) (h : ∀ a ∈ cs, ∀ b ∈ cs, ¬ a.name = b.name → ¬ (f a).name = (f b).name) : ((cs.map f).map (·.name)).Nodup := by
  rw [List.map_map]
  unfold List.Nodup at *
  rw [List.pairwise_map] at *
  exact nd.imp_of_mem fun ha hb e => h _ ha _ hb e
theorem names_same {cs : List Col} {f : Col → Col} (nd : (cs.map (·.name)).Nodup) (h : ∀ a ∈ cs, (f a).name = a.name) : ((cs.map f).map (·.name)).Nodup := names_map nd fun a ha b hb e => by rw [h a ha, h b hb]; exact e
theorem chgV_in {c : Col} {n : Str} {g : Int} {way : Str} (hn : c.name = n) (hg : isGr (.int g) = true) (hd : isIn c.top c.dflt = true) (h : ¬ chgV c.name (.great n g way) c.dflt = .str "missing") : isIn g (chgV c.name (.great n g way) c.dflt) = true := by
  have h1 : 1 ≤ g := by
    have := Bool.and_eq_true_iff.mp hg
    exact of_decide_eq_true this.1
  have hi : ∀ j : Int, 0 ≤ j → j ≤ g → isIn g (.int j) = true := fun j a b => by
    show (decide (0 ≤ j) && decide (j ≤ g)) = true
    rw [decide_eq_true a, decide_eq_true b]
    rfl
  unfold chgV at h ⊢
  rw [if_pos (show (Ch.great n g way).name = c.name from hn.symm)] at h ⊢
  cases e : c.dflt with
  | non => rfl
  | int j =>
    rw [e] at h hd
    have h0 : 0 ≤ j := of_decide_eq_true (Bool.and_eq_true_iff.mp hd).1
    show isIn g (if g < j then abv g way else .int j) = true
    have h : ¬ (if g < j then abv g way else .int j) = V.str "missing" := h
    by_cases q : g < j
    · rw [if_pos q] at h ⊢
      unfold abv at h ⊢
      split
      · exact hi g (by omega) (Int.le_refl g)
      · rename_i q1
        rw [if_neg q1] at h
        split
        · rfl
        · rename_i q2
          rw [if_neg q2] at h
          exact absurd rfl h
    · rw [if_neg q]
      exact hi j h0 (by omega)
  | _ => rw [e] at hd; cases hd
theorem Good.map {cs : List Col} {n : Int} (g : Good cs n) {f : Col → Col} (h1 : ∀ c ∈ cs, ColOk (f c) ∧ (f c).num = c.num) (h2 : ∀ a ∈ cs, ∀ b ∈ cs, ¬ a.name = b.name → ¬ (f a).name = (f b).name) : Good (cs.map f) n where
  ok := fun c hc => by
    obtain ⟨e, he, rfl⟩ := List.mem_map.mp hc
    exact ⟨(h1 e he).1, by rw [(h1 e he).2]; exact (g.ok e he).2⟩
  one := by rw [List.length_map]; exact g.one
  six := by rw [List.length_map]; exact g.six
  names := names_map g.names h2
  nn := g.nn
theorem Good.step {cs : List Col} {n : Int} {ch : Ch} (g : Good cs n) (f : ch.fits = true) (h : hindV cs ch = .non) : Good (behind cs ch n) (numThen ch n) := by
  cases ch with
  | add nm gr d =>
    have h : addHind cs nm gr d = .non := h
    unfold addHind at h
    have f : (isNm (.str nm) && (isGr (.int gr) && isVal d)) = true := f
    rw [Bool.and_eq_true, Bool.and_eq_true] at f
    split at h
    · cases h
    rename_i h1
    split at h
    · cases h
    rename_i h2
    split at h
    · rename_i h3
      have hno : nm ∉ cs.map (·.name) := find_no (Option.not_isSome_iff_eq_none.mp h1)
      refine ⟨fun c hc => ?_, ?_, ?_, ?_, by have := g.nn; show 0 ≤ n + 1; omega⟩
      · rcases List.mem_append.mp hc with hc | hc
        · exact ⟨(g.ok c hc).1, by have := (g.ok c hc).2; show c.num < n + 1; omega⟩
        · cases List.mem_singleton.mp hc
          exact ⟨⟨f.1, f.2.1, h3, g.nn⟩, by show n < n + 1; omega⟩
      · rw [show behind cs (.add nm gr d) n = cs ++ [⟨nm, gr, d, n⟩] from rfl, List.length_append]
        exact Nat.le_add_left _ _
      · rw [show behind cs (.add nm gr d) n = cs ++ [⟨nm, gr, d, n⟩] from rfl, List.length_append]
        show cs.length + 1 ≤ 6
        omega
      · rw [show behind cs (.add nm gr d) n = cs ++ [⟨nm, gr, d, n⟩] from rfl, List.map_append, List.nodup_append]
        refine ⟨g.names, by simp, fun a ha b hb => ?_⟩
        cases List.mem_singleton.mp hb
        intro z
        have z : a = nm := z
        exact hno (by rw [← z]; exact ha)
    · cases h
  | drop nm =>
    have h : (match cs.find? (isN nm) with
      | none => V.str "unknown"
      | some _ => if cs.length = 1 then .str "only" else .non) = .non := h
    have h1 : ¬ cs.length = 1 := fun z => by
      split at h
      · cases h
      · rw [if_pos z] at h
        cases h
    refine ⟨fun c hc => g.ok c (List.mem_filter.mp hc).1, ?_, ?_, ?_, g.nn⟩
    · have := drop_len (n := nm) g.names
      have := g.one
      show 1 ≤ (cs.filter fun c => !decide (c.name = nm)).length
      omega
    · exact Nat.le_trans (List.length_filter_le _ _) g.six
    · exact g.names.sublist (List.filter_sublist.map _)
  | rename nm m =>
    have h : (match cs.find? (isN nm) with
      | none => V.str "unknown"
      | some _ => if (cs.find? (isN m)).isSome = true then .str "alive" else .non) = .non := h
    have f : (isNm (.str nm) && isNm (.str m)) = true := f
    rw [Bool.and_eq_true] at f
    have hno : m ∉ cs.map (·.name) := by
      refine find_no (Option.not_isSome_iff_eq_none.mp fun z => ?_)
      split at h
      · cases h
      · rw [if_pos z] at h
        cases h
    refine g.map (fun c hc => ?_) fun a ha b hb e => ?_
    · by_cases q : c.name = nm
      · rw [if_pos (show c.name = (Ch.rename nm m).name from q)]
        exact ⟨⟨f.2, (g.ok c hc).1.gr, (g.ok c hc).1.df, (g.ok c hc).1.nu⟩, rfl⟩
      · rw [if_neg (show ¬ c.name = (Ch.rename nm m).name from q)]
        exact ⟨(g.ok c hc).1, rfl⟩
    · have ia : ¬ a.name = m := fun z => hno (List.mem_map.mpr ⟨a, ha, z⟩)
      have ib : ¬ b.name = m := fun z => hno (List.mem_map.mpr ⟨b, hb, z⟩)
      show ¬ (if a.name = nm then { a with name := m } else a : Col).name = (if b.name = nm then { b with name := m } else b : Col).name
      by_cases qa : a.name = nm
      · rw [if_pos qa]
        by_cases qb : b.name = nm
        · exact absurd (qa.trans qb.symm) e
        · rw [if_neg qb]
          exact fun z => ib z.symm
      · rw [if_neg qa]
        by_cases qb : b.name = nm
        · rw [if_pos qb]
          exact ia
        · rw [if_neg qb]
          exact e
  | dflt nm v =>
    have h : (match cs.find? (isN nm) with
      | none => V.str "unknown"
      | some e => if isIn e.top v = true then .non else .str "above") = .non := h
    refine g.map (fun c hc => ?_) fun a ha b hb e => ?_
    · by_cases q : c.name = nm
      · rw [if_pos (show c.name = (Ch.dflt nm v).name from q)]
        rw [find_uniq g.names hc q] at h
        refine ⟨⟨(g.ok c hc).1.nm, (g.ok c hc).1.gr, ?_, (g.ok c hc).1.nu⟩, rfl⟩
        have h : (if isIn c.top v = true then V.non else .str "above") = .non := h
        split at h
        · assumption
        · cases h
      · rw [if_neg (show ¬ c.name = (Ch.dflt nm v).name from q)]
        exact ⟨(g.ok c hc).1, rfl⟩
    · show ¬ (if a.name = nm then { a with dflt := v } else a : Col).name = (if b.name = nm then { b with dflt := v } else b : Col).name
      have q : ∀ c : Col, (if c.name = nm then { c with dflt := v } else c : Col).name = c.name := fun c => by split <;> rfl
      rw [q, q]
      exact e
  | great nm gr way =>
    have h : (match cs.find? (isN nm) with
      | none => V.str "unknown"
      | some e => if chgV e.name (.great nm gr way) e.dflt = V.str "missing" then .str "default" else .non) = .non := h
    have f : (isNm (.str nm) && (isGr (.int gr) && isWy way)) = true := f
    rw [Bool.and_eq_true, Bool.and_eq_true] at f
    refine g.map (fun c hc => ?_) fun a ha b hb e => ?_
    · by_cases q : c.name = nm
      · rw [if_pos (show c.name = (Ch.great nm gr way).name from q)]
        rw [find_uniq g.names hc q] at h
        have h : (if chgV c.name (.great nm gr way) c.dflt = V.str "missing" then V.str "default" else .non) = .non := h
        refine ⟨⟨(g.ok c hc).1.nm, f.2.1, chgV_in q f.2.1 (g.ok c hc).1.df fun z => ?_, (g.ok c hc).1.nu⟩, rfl⟩
        rw [if_pos (show chgV c.name (.great nm gr way) c.dflt = V.str "missing" from z)] at h
        cases h
      · rw [if_neg (show ¬ c.name = (Ch.great nm gr way).name from q)]
        exact ⟨(g.ok c hc).1, rfl⟩
    · show ¬ (if a.name = nm then { a with top := gr, dflt := chgV a.name (.great nm gr way) a.dflt } else a : Col).name = (if b.name = nm then { b with top := gr, dflt := chgV b.name (.great nm gr way) b.dflt } else b : Col).name
      have q : ∀ c : Col, (if c.name = nm then { c with top := gr, dflt := chgV c.name (.great nm gr way) c.dflt } else c : Col).name = c.name := fun c => by split <;> rfl
      rw [q, q]
      exact e
  | fill nm i =>
    have q : ∀ c : Col, (if c.name = (Ch.fill nm i).name then chgC c (.fill nm i) else c : Col) = c := fun c => by split <;> rfl
    refine g.map (fun c hc => ?_) fun a ha b hb e => ?_
    · rw [q]
      exact ⟨(g.ok c hc).1, rfl⟩
    · rw [q, q]
      exact e

/-! changed_columns, of what is a change: the columns behind it, or CannotBe with the word -/
def sp_changed_columns (K : PySem.W.Frag) : Sp := fun vs H Q E => ∃ (l t : Addr) (as : List Addr) (cs : List Col) (ch : Ch) (num : Int), vs = [.ref l, .ref t, .int num] ∧ SqL K H l (as.map V.ref) ∧ Cols K H as cs ∧ ChAt K H t ch ∧ ch.fits = true ∧ Good cs num ∧
  (∀ (l' : Addr) (as' : List Addr) (H' : Hp), hindV cs ch = .non → H l' = none → Same H H' → H' l' = some (.lst (as'.map V.ref)) → Cols K H' as' (behind cs ch num) → Q (.ref l') H') ∧
  ∀ (d : Addr) (H' : Hp), hindV cs ch ≠ .non → Same H H' → H' d = some (.xd [("word", hindV cs ch)]) → E (.ref (He.ga K "CannotBe")) (some d) H'
theorem ok_changed_columns (T : Tx K mg) : Callee P w K mg base (L2.CX P w) 9 "changed_columns" ["columns", "change", "number"] [] (sp_changed_columns K) := by
  have C1 := (ok_why_not (P := P) (w := w) (base := base) T).up (show 6 ≤ 8 by decide)
  have C2 := ok_columns_behind (P := P) (w := w) (base := base) T
  have C2 := C2.up (show _ ≤ 8 by decide)
  obtain ⟨fdE, FE, bE⟩ := ok_CannotBe_init (P := P) (w := w) (base := base) T
  have ox := oexB_ok (ex_CannotBe_x T)
  obtain ⟨fd, F⟩ := fd_changed_columns T
  have b : Binds K fd ["columns", "change", "number"] [] := F.bindsN (fun _ _ _ _ _ _ us hl => match us, hl with | [_, _, _], _ => rfl)
  refine ⟨⟨fd, [], F.ok (CX := L2.CX P w) sc_changed_columns (fun vs H Q E h => ?_) (fun cdv A outer s H vs Q E hr h => ?_), b, .nil⟩, F.kp, mg_changed_columns T⟩
  · obtain ⟨l, t, as, cs, ch, num, rfl, _⟩ := h
    rfl
  · obtain ⟨l, t, as, cs, ch, num, rfl, hl, hc, ht, hf, g, kQ, kE⟩ := h
    have nd := sc_changed_columns.nd
    have hr2 : Room 2 _ := hr.mono (by decide)
    refine ⟨_, (pss_cons (ps_set (i := 3) nd rfl (Or.inl rfl) (pcall C1 hr (pa_cons (pv 0) (pa_cons (pv 1) pa_nil))))
        (pss_cons (ps_if (pt_cmpR op_notN (pv 3) pe_non (nomark _)) (pss_one (ps_raise1 (f := "word") rfl (takes_of rfl rfl rfl rfl) ox FE hr2 bE (mg_CannotBe T) (pv 3))) pss_nil)
        (pss_one (ps_ret (pcall C2 hr (pa_cons (pv 0) (pa_cons (pv 1) (pa_cons (pv 2) pa_nil)))))))), ?_⟩
    have hd : ∀ e ∈ cs, valOk e.dflt = true := fun e he => in_valOk (g.ok e he).1.df
    refine q_asgX ⟨_, rfl, _, rfl, l, t, as, cs, ch, rfl, .inl hl, hc, hd, ht, hf, fun H1 s1 => ?_⟩
    dsimp only
    by_cases hw : hindV cs ch = .non
    · have s6 := g.six
      have hal := hc.len
      rw [hw]
      refine ⟨_, rfl, rfl, _, rfl, iteNS rfl (nxt ?_)⟩
      exact ⟨_, rfl, _, rfl, _, rfl, l, t, as, cs, ch, num, rfl, s1.seq hl, hc.keep s1, ht.keep s1, by omega, g.nn, fun c hc' => (g.ok c hc').1, fun c hc' => ((g.step hf hw).ok c hc').1, fun l' as' H' nl s2 hl' hc' => kQ l' as' H' hw (s1.free nl) (s1.trans s2) hl' hc'⟩
    · refine ⟨_, rfl, rfl, _, rfl, iteNF hw ?_⟩
      refine ⟨_, rfl, fun d nd' => ?_⟩
      exact kE d _ hw (s1.trans (same_new nd')) upd_same
/-! _law_pool -/
def sp_pool (K : PySem.W.Frag) : Sp := fun vs H Q _ => ∃ (a : Addr) (ns : List Int) (k : Int), vs = [.ref a, .int k] ∧ SqL K H a (ns.map V.int) ∧ 0 ≤ k ∧ k ≤ 1000 ∧
  ∀ (p : Addr) (H' : Hp) (z0 z1 : Int), H p = none → Same H H' → H' p = some (.lst [.int z0, .int z1]) → Q (.ref p) H'
theorem ok_pool (T : Tx K mg) : Callee P w K mg base CX0 1 "_law_pool" ["_law_script", "_law_k"] [] (sp_pool K) := by
  refine mkCallee (fd__law_pool T) (mg__law_pool T) sc__law_pool (fun _ _ _ _ _ _ us hl => match us, hl with | [_, _], _ => rfl) (fun vs H Q E h => ?_) (fun cdv A outer s H vs Q E hr h => ?_)
  · obtain ⟨a, ns, k, rfl, _⟩ := h
    rfl
  · obtain ⟨a, ns, k, rfl, hs, k0, k1, kk⟩ := h
    have gi : mg "int" = none := fr_int T
    refine ⟨_, pss_cons (ps_set (i := 2) sc__law_pool.nd rfl (Or.inl rfl) (pe_ifExp (pt_cmpR op_lt (pv 1) (pe_callB call_len (by rfl) (fr_len T) PySem.boot_len (pa_cons (pv 0) pa_nil)) (nomark _))
        (pe_callB (call_max2 rfl) (by rfl) (fr_max T) (by decide +kernel) (pa_cons (pe_callTy call_int1 (by rfl) gi (by decide +kernel) (pa_cons (pe_ix ix_list (pv 0) (pv 1) (fun _ _ => rfl)) pa_nil))
          (pa_cons (pe_callTy call_int1 (by rfl) gi (by decide +kernel) (pa_cons (pe_op op_sub (pe_un un_neg pe_int) (pe_ix ix_list (pv 0) (pv 1) (fun _ _ => rfl))) pa_nil)) pa_nil))) pe_int))
      (pss_cons (ps_set (i := 3) sc__law_pool.nd rfl (Or.inl rfl) (pe_op op_add (pe_op op_modN (pe_callTy call_int1 (by rfl) gi (by decide +kernel) (pa_cons (pe_op op_mul (pe_op op_add (pe_op op_modN (pe_callTy call_int1 (by rfl) gi (by decide +kernel) (pa_cons (pv 2) pa_nil)) pe_int)
        (pe_op op_mul pe_int (pe_op op_add (pv 1) pe_int))) pe_int) pa_nil)) pe_int) pe_int))
      (pss_one (ps_ret (pe_lst (pa_cons (pe_op op_mul (pv 2) (pe_callTy call_int1 (by rfl) gi (by decide +kernel) (pa_cons (pe_cmpR op_ge (pv 2) (pe_op op_pow pe_int pe_int) (nomark _)) pa_nil)))
        (pa_cons (pe_op op_modN (pe_callTy call_int1 (by rfl) gi (by decide +kernel) (pa_cons (pe_op op_mul (pv 3) (pv 3)) pa_nil)) pe_int) pa_nil)))))), ?_⟩
    refine q_asgI (fun R r => ?_) fun z => ?_
    · refine ⟨_, rfl, _, rfl, _, (ns.map V.int).length, rfl, .inl ⟨_, hs, rfl⟩, _, _, rfl, rfl, _, rfl, ?_⟩
      by_cases hk : k < ((ns.map V.int).length : Int)
      · rw [decide_eq_true hk]
        obtain ⟨j, rfl⟩ : ∃ j : Nat, k = (j : Int) := ⟨k.toNat, by omega⟩
        have hj : j < ns.length := by
          rw [List.length_map] at hk
          omega
        have hx : (ns.map V.int)[j]? = some (V.int ns[j]) := by
          rw [List.getElem?_map, List.getElem?_eq_getElem hj]
          rfl
        refine iteT ⟨_, rfl, _, rfl, a, _, _, _, rfl, rfl, hs, at_of (j := j) rfl hx, .inl ⟨_, rfl, _, rfl, _, rfl, _, rfl, a, _, _, _, rfl, rfl, hs, at_of (j := j) rfl hx, _, _, rfl, rfl, .inl ⟨_, rfl, _, _, rfl, r _⟩⟩⟩
      · rw [decide_eq_false hk]
        exact iteF (r 7)
    · refine ⟨_, rfl, .inl ⟨_, rfl, _, _, rfl, rfl, (show (2147483629 : Int) ≠ 0 by decide), _, rfl, _, _, rfl, rfl, _, _, rfl, rfl, .inl ⟨by decide, by decide⟩, _, _, rfl, rfl, _, _, rfl, rfl, .inr ⟨by decide, by decide⟩, .inl ⟨_, rfl, _, _, rfl, rfl, (show (2147483629 : Int) ≠ 0 by decide), _, _, rfl, rfl, ?_⟩⟩⟩
      have m0 := mod_lo (i := (z.fmod 2147483629 + 104729 * (k + 1)) * 48271) (j := 2147483629) (by decide)
      have m1 := mod_hi (i := (z.fmod 2147483629 + 104729 * (k + 1)) * 48271) (j := 2147483629) (by decide)
      refine ⟨_, rfl, _, rfl, _, _, rfl, rfl, ⟨by decide, by decide, by decide⟩, _, _, rfl, rfl, .inr ⟨_, rfl, _, _, rfl, rfl, ?_, _, rfl, _, rfl, _, _, rfl, rfl, .inl ⟨by omega, by omega⟩, .inl ⟨_, rfl, _, _, rfl, rfl, (show (2147483629 : Int) ≠ 0 by decide), (by show 2 ≤ sizeLine; decide), fun p hp => ?_⟩⟩⟩
      · refine .inr ?_
        split
        · exact ⟨by decide, by decide⟩
        · exact ⟨by decide, by decide⟩
      · exact kk p _ _ _ hp (same_new hp) upd_same
/-! _law_draw -/
def sp_draw : Sp := fun vs H Q _ => ∃ (a : Addr) (z0 z1 m : Int), vs = [.ref a, .int m] ∧ H a = some (.lst [.int z0, .int z1]) ∧ 0 < m ∧ m < 1073741824 ∧
  ∀ r y0 y1 : Int, 0 ≤ r → r < m → Q (.int r) (upd H a (.lst [.int y0, .int y1]))
theorem ok_draw (T : Tx K mg) : Callee P w K mg base CX0 1 "_law_draw" ["_law_pool_here", "_law_many"] [] sp_draw := by
  refine mkCallee (fd__law_draw T) (mg__law_draw T) sc__law_draw (fun _ _ _ _ _ _ us hl => match us, hl with | [_, _], _ => rfl) (fun vs H Q E h => ?_) (fun cdv A outer s H vs Q E hr h => ?_)
  · obtain ⟨a, z0, z1, m, rfl, _⟩ := h
    rfl
  · obtain ⟨a, z0, z1, m, rfl, ha, hm, hm2, k⟩ := h
    have gi : mg "int" = none := fr_int T
    refine ⟨_, pss_cons (ps_if (pt_cmpR op_gt (pe_ix ix_list (pv 0) pe_int (fun _ _ => rfl)) pe_int (nomark _))
        (pss_cons (ps_set (i := 2) sc__law_draw.nd rfl (Or.inl rfl) (pe_op op_modN (pe_callTy call_int1 (by rfl) gi (by decide +kernel) (pa_cons (pe_ix ix_list (pv 0) pe_int (fun _ _ => rfl)) pa_nil)) (pv 1)))
        (pss_cons (ps_asg (pe_op op_fdivN (pe_ix ix_list (pv 0) pe_int (fun _ _ => rfl)) (pv 1)) (pg_sub (pv 0) pe_int set_list))
        (pss_one (ps_ret (pv 2))))) pss_nil)
      (pss_cons (ps_asg (pe_op op_modN (pe_callTy call_int1 (by rfl) gi (by decide +kernel) (pa_cons (pe_op op_add (pe_op op_mul (pe_ix ix_list (pv 0) pe_int (fun _ _ => rfl)) pe_int) pe_int) pa_nil)) pe_int) (pg_sub (pv 0) pe_int set_list))
      (pss_one (ps_ret (pe_op op_modN (pe_callTy call_int1 (by rfl) gi (by decide +kernel) (pa_cons (pe_op op_fdivN (pe_op op_modN (pe_callTy call_int1 (by rfl) gi (by decide +kernel)
        (pa_cons (pe_op op_mul (pe_ix ix_list (pv 0) pe_int (fun _ _ => rfl)) (pe_ix ix_list (pv 0) pe_int (fun _ _ => rfl))) pa_nil)) pe_int) pe_int) pa_nil)) (pv 1))))), ?_⟩
    have i0 : atI [V.int z0, V.int z1] 0 = some (V.int z0) := rfl
    have i1 : atI [V.int z0, V.int z1] 1 = some (V.int z1) := rfl
    refine ⟨_, rfl, a, _, _, _, rfl, rfl, sqL_of ha, i0, _, _, rfl, rfl, _, rfl, ?_⟩
    by_cases hz : 0 < z0
    · rw [decide_eq_true hz]
      refine iteT ⟨_, rfl, a, _, _, _, rfl, rfl, sqL_of ha, i0, .inl ⟨_, rfl, _, rfl, _, _, rfl, rfl, (by omega), ?_⟩⟩
      refine ⟨_, rfl, a, _, _, _, rfl, rfl, sqL_of ha, i0, _, rfl, _, _, rfl, rfl, ⟨by omega, by omega⟩, _, rfl, a, _, 0, 0, rfl, rfl, ha, rfl, ?_⟩
      exact ⟨_, rfl, k _ _ _ (mod_lo hm) (mod_hi hm)⟩
    · rw [decide_eq_false hz]
      refine iteF ?_
      refine ⟨_, rfl, a, _, _, _, rfl, rfl, sqL_of ha, i1, _, _, rfl, rfl, .inr ⟨by decide, by decide⟩, _, _, rfl, rfl, .inl ⟨_, rfl, _, _, rfl, rfl, (show (2147483647 : Int) ≠ 0 by decide), ?_⟩⟩
      refine ⟨_, rfl, a, _, 1, 1, rfl, rfl, ha, rfl, ?_⟩
      have hy0 : 0 ≤ (z1 * 48271 + 11).fmod 2147483647 := mod_lo (by decide)
      have hy1 : (z1 * 48271 + 11).fmod 2147483647 < 2147483647 := mod_hi (by decide)
      have u1 : upd H a (.lst ([V.int z0, V.int z1].set 1 (.int ((z1 * 48271 + 11).fmod 2147483647)))) a = some (.lst [.int z0, .int ((z1 * 48271 + 11).fmod 2147483647)]) := upd_same
      have j1 : atI [V.int z0, V.int ((z1 * 48271 + 11).fmod 2147483647)] 1 = some (V.int ((z1 * 48271 + 11).fmod 2147483647)) := rfl
      refine ⟨_, rfl, a, _, _, _, rfl, rfl, sqL_of u1, j1, _, rfl, a, _, _, _, rfl, rfl, sqL_of u1, j1, _, _, rfl, rfl, .inl ⟨by omega, by omega⟩, .inl ⟨_, rfl, _, _, rfl, rfl, (show (2147483629 : Int) ≠ 0 by decide), _, _, rfl, rfl, ⟨by decide, by decide⟩, .inl ⟨_, rfl, _, rfl, _, _, rfl, rfl, (by omega), ?_⟩⟩⟩
      exact k _ _ _ (mod_lo hm) (mod_hi hm)
/-! _law_pick -/
def sp_pick : Sp := fun vs H Q _ => ∃ (a b : Addr) (z0 z1 : Int) (xs : List V), vs = [.ref a, .ref b] ∧ H a = some (.lst [.int z0, .int z1]) ∧ H b = some (.lst xs) ∧ b ≠ a ∧ 0 < xs.length ∧ xs.length < 1000000 ∧
  ∀ (x : V) (y0 y1 : Int), x ∈ xs → Q x (upd H a (.lst [.int y0, .int y1]))
theorem ok_pick (T : Tx K mg) : Callee P w K mg base CX0 2 "_law_pick" ["_law_pool_here", "_law_row"] [] sp_pick := by
  have C1 := ok_draw (P := P) (w := w) (base := base) T
  refine mkCallee (fd__law_pick T) (mg__law_pick T) sc__law_pick (fun _ _ _ _ _ _ us hl => match us, hl with | [_, _], _ => rfl) (fun vs H Q E h => ?_) (fun cdv A outer s H vs Q E hr h => ?_)
  · obtain ⟨a, b, z0, z1, xs, rfl, _⟩ := h
    rfl
  · obtain ⟨a, b, z0, z1, xs, rfl, ha, hb, nb, h0, h1, k⟩ := h
    have gl : mg "len" = none := fr_len T
    refine ⟨_, pss_one (ps_ret (pe_ix ix_list (pv 1) (pcall C1 hr (pa_cons (pv 0) (pa_cons (pe_callB call_len_seq (by rfl) gl PySem.boot_len (pa_cons (pv 1) pa_nil)) pa_nil))) (fun _ _ => rfl))), ?_⟩
    refine ⟨_, rfl, _, rfl, _, rfl, b, xs, rfl, .inl (sqL_of hb), a, z0, z1, _, rfl, ha, (by omega), (by omega), fun r y0 y1 hr0 hr1 => ?_⟩
    obtain ⟨j, rfl⟩ : ∃ j : Nat, r = (j : Int) := ⟨r.toNat, by omega⟩
    have hj : j < xs.length := by omega
    refine ⟨b, xs, _, xs[j], rfl, rfl, sqL_of (by rw [upd_ne nb]; exact hb), at_of (j := j) rfl (List.getElem?_eq_getElem hj), ?_⟩
    exact k _ _ _ (List.getElem_mem hj)
theorem ixN_ok {n : Nat} {i : Int} (h : 0 ≤ i) (h2 : i < n) : ixN n i = some i.toNat := by
  unfold ixN
  rw [if_pos h, if_pos h2]

/-! heaps: all but one place; lists and dicts apart -/
/-- all but what stands at p is as it was -/
def But (p : Addr) (H H' : Hp) : Prop := ∀ b o, b ≠ p → H b = some o → H' b = some o
theorem But.refl (p : Addr) (H : Hp) : But p H H := fun _ _ _ e => e
theorem But.trans {p : Addr} {H H1 H2 : Hp} (a : But p H H1) (b : But p H1 H2) : But p H H2 := fun c o h e => b c o h (a c o h e)
theorem But.of {p : Addr} {H H' : Hp} (s : Same H H') : But p H H' := fun b o _ e => s b o e
theorem But.mut {p : Addr} {H : Hp} {o : HO} : But p H (upd H p o) := fun b u h e => by
  rw [upd_ne h]
  exact e
/-- nothing that stood ahead of p is touched -/
theorem But.same {p : Addr} {H0 H H' : Hp} (b : But p H H') (s : Same H0 H) (n : H0 p = none) : Same H0 H' := fun c o e => b c o (ne_of_none e n) (s c o e)
theorem npool0 {H : Hp} {p l : Addr} {o : HO} (h : H p = some o) (n : H l = none) : l ≠ p := fun e => by
  rw [e, h] at n
  cases n
theorem KeepNL.ofBut {H H' : Hp} {p : Addr} {zs : List V} (h : H p = some (.lst zs)) (b : But p H H') : KeepNL H H' := fun c o n e => b c o (fun q => by rw [q, h] at e; exact n zs (Option.some.inj e).symm) e
/-- all that is neither a list nor a dict is as it was -/
def KeepT (H H' : Hp) : Prop := ∀ b o, (∀ zs, o ≠ HO.lst zs) → (∀ kvs, o ≠ HO.dK kvs) → H b = some o → H' b = some o
theorem KeepT.of {H H' : Hp} (s : Same H H') : KeepT H H' := fun b o _ _ e => s b o e
theorem KeepT.trans {H H1 H2 : Hp} (a : KeepT H H1) (b : KeepT H1 H2) : KeepT H H2 := fun c o n m e => b c o n m (a c o n m e)
theorem KeepT.lst {H : Hp} {D : Addr} {zs : List V} {o : HO} (h : H D = some (.lst zs)) : KeepT H (upd H D o) := fun b o' n _ e => by
  rw [upd_ne (fun q => by rw [q, h] at e; exact n zs (Option.some.inj e).symm)]
  exact e
theorem KeepT.dct {H : Hp} {D : Addr} {kvs : List (Key × V)} {o : HO} (h : H D = some (.dK kvs)) : KeepT H (upd H D o) := fun b o' _ n e => by
  rw [upd_ne (fun q => by rw [q, h] at e; exact n kvs (Option.some.inj e).symm)]
  exact e
theorem KeepT.but {H H' : Hp} {p : Addr} {zs : List V} (h : H p = some (.lst zs)) (b : But p H H') : KeepT H H' := fun c o n _ e => b c o (fun q => by rw [q, h] at e; exact n zs (Option.some.inj e).symm) e
theorem sqT_keepT {K : PySem.W.Frag} {H H' : Hp} {a : Addr} {xs : List V} (s : KeepT H H') (h : SqT K H a xs) : SqT K H' a xs := by
  rcases h with (h | ⟨o, h⟩) | h
  · exact .inl (.inl (s _ _ (fun _ z => by cases z) (fun _ z => by cases z) h))
  · exact .inl (.inr ⟨o, s _ _ (fun _ z => by cases z) (fun _ z => by cases z) h⟩)
  · exact .inr h
theorem sqT_keepNL {K : PySem.W.Frag} {H H' : Hp} {a : Addr} {xs : List V} (s : KeepNL H H') (h : SqT K H a xs) : SqT K H' a xs := by
  rcases h with (h | ⟨o, h⟩) | h
  · exact .inl (.inl (s _ _ (fun _ z => by cases z) h))
  · exact .inl (.inr ⟨o, s _ _ (fun _ z => by cases z) h⟩)
  · exact .inr h
theorem pl_e1 {σ : L2.St} {H : Hp} {X : TE} {r : List V → Hp → VK → Prop} {Q : VK} (h : X σ H fun v H1 => r [v] H1 Q) : tCB r (tCons X tNil) σ H Q := h
theorem pl_op {σ : L2.St} {H : Hp} {ta tb : TE} {r : V → V → Hp → VK → Prop} {Q : VK} (h : ta σ H fun x H1 => tb σ H1 fun y H2 => r x y H2 Q) : tOp r ta tb σ H Q := h
theorem at_zero {xs : List V} {v : V} (h : xs[0]? = some v) : atI xs 0 = some v := by
  have hj := (List.getElem?_eq_some_iff.mp h).1
  unfold atI
  rw [ixN_ok (by omega) (by omega)]
  exact h
theorem refs_no {as : List Addr} {a b : Int} : ¬ as.map V.ref = [.int a, .int b] := fun e => by
  cases as with
  | nil => cases e
  | cons x xs => cases (List.cons.inj e).1
theorem lref_at {as : List Addr} {j : Nat} {a : Addr} (h : as[j]? = some a) : atI (as.map V.ref) ((j : Nat) : Int) = some (.ref a) := by
  have hj := (List.getElem?_eq_some_iff.mp h).1
  unfold atI
  rw [ixN_ok (by omega) (by rw [List.length_map]; omega)]
  show (as.map V.ref)[j]? = _
  rw [List.getElem?_map, h]
  rfl

/-! values to a greatest -/
theorem valsTo_in {g : Int} {v : V} (h : v ∈ valsTo g) : isIn g v = true := by
  unfold valsTo at h
  rcases List.mem_cons.mp h with rfl | h
  · rfl
  · unfold rgV at h
    obtain ⟨i, hi, rfl⟩ := List.mem_map.mp h
    rw [List.mem_range] at hi
    show (decide ((0 : Int) ≤ 0 + (i : Int)) && decide ((0 : Int) + (i : Int) ≤ g)) = true
    rw [Bool.and_eq_true]
    exact ⟨decide_eq_true (by omega), decide_eq_true (by omega)⟩
theorem in_vals {g : Int} {v : V} (h : isIn g v = true) : v ∈ valsTo g := by
  cases v with
  | non => exact List.mem_cons_self
  | int u =>
    have h : (decide (0 ≤ u) && decide (u ≤ g)) = true := h
    rw [Bool.and_eq_true] at h
    have g0 := of_decide_eq_true h.1
    have g1 := of_decide_eq_true h.2
    refine List.mem_cons_of_mem _ (List.mem_map.mpr ⟨u.toNat, List.mem_range.mpr (by omega), ?_⟩)
    rw [show (0 : Int) + (u.toNat : Nat) = u by omega]
  | _ => cases h

/-! _law_value -/
def sp_value (m0 : Int) : Sp := fun vs H Q _ => ∃ (p : Addr) (z0 z1 m : Int), vs = [.ref p, .int m] ∧ H p = some (.lst [.int z0, .int z1]) ∧ 0 ≤ m ∧ m ≤ m0 ∧
  ∀ (v : V) (y0 y1 : Int) (H' : Hp), isIn m v = true → But p H H' → H' p = some (.lst [.int y0, .int y1]) → Q v H'
theorem ok_value (T : Tx K mg) : Callee P w K mg base CX0 3 "_law_value" ["_law_pool_here", "_law_most"] [] (sp_value 1000) := by
  have C1 := ok_pick (P := P) (w := w) (base := base) T
  refine mkCallee (fd__law_value T) (mg__law_value T) sc__law_value (fun _ _ _ _ _ _ us hl => match us, hl with | [_, _], _ => rfl) (fun vs H Q E h => ?_) (fun cdv A outer s H vs Q E hr h => ?_)
  · obtain ⟨p, z0, z1, m, rfl, _⟩ := h
    rfl
  · obtain ⟨p, z0, z1, m, rfl, hp, h0, h1, k⟩ := h
    refine ⟨_, pss_one (ps_ret (pcall C1 hr (pa_cons (pv 0) (pa_cons (pe_op op_cat (pe_lst (pa_cons pe_non pa_nil)) (pe_listRg rfl (by rfl) (fr_list T) (prg_1 (by rfl) (fr_range T) (pe_op op_add (pv 1) pe_int)))) pa_nil)))), ?_⟩
    refine ⟨_, rfl, (by show 1 ≤ sizeLine; decide), fun l nl => ⟨_, rfl, _, _, rfl, rfl, _, rfl, .of_le (by omega) (by omega) (by omega) (by omega), fun q nq => ?_⟩⟩
    refine ⟨l, q, _, _, rfl, rfl, same_new nq _ _ upd_same, upd_same, ?_, fun c nc => ?_⟩
    · rw [rgV_length]
      have e : sizeLine = 16777216 := by decide
      rw [e]
      show 1 + (m + 1 - 0).toNat ≤ _
      omega
    have s3 := ((same_new (o := .lst [.non]) nl).trans (same_new (o := .lst (rgV 0 (m + 1))) nq)).trans (same_new (o := .lst ([V.non] ++ rgV 0 (m + 1))) nc)
    have hp3 := s3 _ _ hp
    have ncp : c ≠ p := fun e => by
      have h2 := ((same_new (o := .lst [.non]) nl).trans (same_new (o := .lst (rgV 0 (m + 1))) nq)) _ _ hp
      rw [← e, nc] at h2
      cases h2
    refine ⟨p, c, z0, z1, valsTo m, rfl, hp3, upd_same, ncp, ?_, ?_, fun v y0 y1 hv => k v y0 y1 _ (valsTo_in hv) ((But.of s3).trans But.mut) upd_same⟩
    · unfold valsTo
      rw [List.length_cons]
      omega
    · unfold valsTo
      rw [List.length_cons, rgV_length]
      omega
/-! _law_cut -/
def cutL (g : Int) (way : Str) (v : V) : V := match v with
  | .int j => if g < j then (if way = "cut" then .int g else if way = "none" then .non else .str "barred") else .int j
  | v => v
theorem merge3 (x y z : V) : mergeK [] [(Sum.inr "cut", x), (Sum.inr "none", y), (Sum.inr "refuse", z)] = ([(Sum.inr "cut", x), (Sum.inr "none", y), (Sum.inr "refuse", z)] : List (Key × V)) := by
  have h1 : ¬ ((Sum.inr "cut" : Key) = (Sum.inr "none" : Key)) := by decide +kernel
  have h2 : ¬ ((Sum.inr "cut" : Key) = (Sum.inr "refuse" : Key)) := by decide +kernel
  have h3 : ¬ ((Sum.inr "none" : Key) = (Sum.inr "refuse" : Key)) := by decide +kernel
  simp [mergeK, putK, h1, h2, h3]
theorem val3 {x y z : V} {way : Str} (hw : isWy way = true) : valV ([(Sum.inr "cut", x), (Sum.inr "none", y), (Sum.inr "refuse", z)] : List (Key × V)) (Sum.inr way) = some (if way = "cut" then x else if way = "none" then y else z) := by
  have h1 : ¬ ((Sum.inr "cut" : Key) = (Sum.inr "none" : Key)) := by decide +kernel
  have h2 : ¬ ((Sum.inr "cut" : Key) = (Sum.inr "refuse" : Key)) := by decide +kernel
  have h3 : ¬ ((Sum.inr "none" : Key) = (Sum.inr "refuse" : Key)) := by decide +kernel
  have g1 : ¬ (("none" : Str) = "cut") := by decide +kernel
  have g2 : ¬ (("refuse" : Str) = "cut") := by decide +kernel
  have g3 : ¬ (("refuse" : Str) = "none") := by decide +kernel
  have h' : (decide (way = "cut") || (decide (way = "none") || decide (way = "refuse"))) = true := hw
  rw [Bool.or_eq_true, Bool.or_eq_true, decide_eq_true_iff, decide_eq_true_iff, decide_eq_true_iff] at h'
  rcases h' with rfl | rfl | rfl
  · rw [if_pos rfl]
    exact valV_pos rfl
  · rw [if_neg g1, if_pos rfl]
    simp [valV, h1]
  · rw [if_neg g2, if_neg g3]
    simp [valV, h2, h3]
def sp_cut (K : PySem.W.Frag) : Sp := fun vs H Q _ => ∃ (t : Addr) (n way : Str) (g : Int) (v : V), vs = [v, .ref t] ∧ ChAt K H t (.great n g way) ∧ isWy way = true ∧ valOk v = true ∧ ∀ H', Same H H' → Q (cutL g way v) H'
theorem ok_cut (T : Tx K mg) : Callee P w K mg base CX0 1 "_law_cut" ["_law_value_here", "_law_change_here"] [] (sp_cut K) := by
  refine mkCallee (fd__law_cut T) (mg__law_cut T) sc__law_cut (fun _ _ _ _ _ _ us hl => match us, hl with | [_, _], _ => rfl) (fun vs H Q E h => ?_) (fun cdv A outer s H vs Q E hr h => ?_)
  · obtain ⟨t, n, way, g, v, rfl, _⟩ := h
    rfl
  · obtain ⟨t, n, way, g, v, rfl, ht, hw, hv, k⟩ := h
    have i2 : atI (Ch.great n g way).toV 2 = some (.int g) := rfl
    have i3 : atI (Ch.great n g way).toV 3 = some (.str way) := rfl
    refine ⟨_, pss_cons (ps_if (PW.pt (pw_or (pt_cmpR op_isN (pv 0) pe_non (nomark _)) (pw_or1 (pt_cmpR op_le (pv 0) (pe_ix ix_tup (pv 1) pe_int (fun _ _ => rfl)) (nomark _))))) (pss_one (ps_ret (pv 0))) pss_nil)
      (pss_one (ps_ret (pe_dget (hu_of hr) (pe_disp (pps_cons pe_str (pe_ix ix_tup (pv 1) pe_int (fun _ _ => rfl)) (pps_cons pe_str pe_non (pps_cons pe_str pe_str pps_nil))) (by rfl) (by rfl) (fun z => by cases z) (by decide)) (pe_ix ix_tup (pv 1) pe_int (fun _ _ => rfl)) (fun _ _ => rfl)))), ?_⟩
    refine ⟨_, rfl, rfl, _, rfl, ?_⟩
    cases v with
    | non => exact iteDT rfl (iteT ⟨_, rfl, k H (Same.refl _)⟩)
    | int j =>
      refine iteD (by intro z; cases z) ⟨_, rfl, _, rfl, t, _, 2, _, rfl, rfl, ht, i2, _, _, rfl, rfl, _, rfl, ?_⟩
      by_cases hj : j ≤ g
      · refine iteDT hj ⟨_, rfl, ?_⟩
        have e : cutL g way (.int j) = .int j := if_neg (by omega)
        rw [← e]
        exact k H (Same.refl _)
      · refine iteD hj (nxt ?_)
        have e : cutL g way (.int j) = (if way = "cut" then .int g else if way = "none" then .non else .str "barred") := if_pos (by omega)
        refine fun p np => ⟨_, rfl, t, _, 2, _, rfl, rfl, same_tup (same_new np) ht, i2, upd_same, [(Sum.inr "cut", V.int g), (Sum.inr "none", V.non), (Sum.inr "refuse", V.str "barred")], rfl, (by show 3 ≤ 15; decide), ?_⟩
        rw [upd_upd, merge3]
        have s2 : Same H (upd H p (.dK [(Sum.inr "cut", V.int g), (Sum.inr "none", V.non), (Sum.inr "refuse", V.str "barred")])) := same_new np
        refine ⟨_, rfl, t, _, 3, _, rfl, rfl, same_tup s2 ht, i3, p, cutL g way (.int j), rfl, ?_, k _ s2⟩
        rw [e, ← val3 hw]
        exact DGet.k (k := Sum.inr way) upd_same
    | _ => cases hv
/-! _law_col_then, where the change can be done; a law's column as a tuple -/
def LcAt (K : PySem.W.Frag) (H : Hp) (a : Addr) (c : Col) : Prop := H a = some (.tup [.str c.name, .int c.top, c.dflt, .int c.num])
theorem LcAt.keep {K : PySem.W.Frag} {H H' : Hp} {a : Addr} {c : Col} (s : Same H H') (h : LcAt K H a c) : LcAt K H' a c := s _ _ h
theorem cut_chg {c : Col} {n : Str} {g : Int} {way : Str} (hn : c.name = n) (hd : valOk c.dflt = true) (h : isIn g (chgV c.name (.great n g way) c.dflt) = true) : cutL g way c.dflt = chgV c.name (.great n g way) c.dflt := by
  unfold chgV at h ⊢
  rw [if_pos (show (Ch.great n g way).name = c.name from hn.symm)] at h ⊢
  cases e : c.dflt with
  | non => rfl
  | int j =>
    rw [e] at h
    have h : isIn g (if g < j then abv g way else .int j) = true := h
    show (if g < j then (if way = "cut" then V.int g else if way = "none" then .non else .str "barred") else .int j) = (if g < j then abv g way else .int j)
    by_cases q : g < j
    · rw [if_pos q] at h
      rw [if_pos q, if_pos q]
      unfold abv at h ⊢
      by_cases q1 : way = "cut"
      · rw [if_pos q1, if_pos q1]
      · rw [if_neg q1] at h
        rw [if_neg q1, if_neg q1]
        by_cases q2 : way = "none"
        · rw [if_pos q2, if_pos q2]
        · rw [if_neg q2] at h
          cases h
    · rw [if_neg q, if_neg q]
  | _ => rw [e] at hd; cases hd
def sp_col_then (K : PySem.W.Frag) : Sp := fun vs H Q _ => ∃ (a t : Addr) (c : Col) (ch : Ch), vs = [.ref a, .ref t] ∧ LcAt K H a c ∧ ChAt K H t ch ∧ c.name = ch.name ∧ ch.fits = true ∧ valOk c.dflt = true ∧ isIn (chgC c ch).top (chgC c ch).dflt = true ∧
  ∀ (a' : Addr) (H' : Hp), Same H H' → LcAt K H' a' (chgC c ch) → Q (.ref a') H'
theorem ok_col_then (T : Tx K mg) : Callee P w K mg base CX0 2 "_law_col_then" ["_law_col", "_law_change_here"] [] (sp_col_then K) := by
  have C1 := ok_cut (P := P) (w := w) (base := base) T
  refine mkCallee (fd__law_col_then T) (mg__law_col_then T) sc__law_col_then (fun _ _ _ _ _ _ us hl => match us, hl with | [_, _], _ => rfl) (fun vs H Q E h => ?_) (fun cdv A outer s H vs Q E hr h => ?_)
  · obtain ⟨a, t, c, ch, rfl, _⟩ := h
    rfl
  · obtain ⟨a, t, c, ch, rfl, ha, ht, hn, hf, hd, hdf, k⟩ := h
    have nd := sc__law_col_then.nd
    refine ⟨_, pss_cons (ps_asg (pv 0) (pg_tup rfl (pgs_cons (pg_name (i := 2) nd rfl (Or.inl rfl)) (pgs_cons (pg_name (i := 3) nd rfl (Or.inl rfl)) (pgs_cons (pg_name (i := 4) nd rfl (Or.inl rfl)) (pgs_cons (pg_name (i := 5) nd rfl (Or.inl rfl)) pgs_nil))))))
      (pss_cons (ps_if (pt_cmpR op_eq (pe_ix ix_tup (pv 1) pe_int (fun _ _ => rfl)) pe_str (nomark _)) (pss_one (ps_ret (pe_tup (pa_cons (pe_ix ix_tup (pv 1) pe_int (fun _ _ => rfl)) (pa_cons (pv 3) (pa_cons (pv 4) (pa_cons (pv 5) pa_nil))))))) pss_nil)
      (pss_cons (ps_if (pt_cmpR op_eq (pe_ix ix_tup (pv 1) pe_int (fun _ _ => rfl)) pe_str (nomark _)) (pss_one (ps_ret (pe_tup (pa_cons (pv 2) (pa_cons (pv 3) (pa_cons (pe_ix ix_tup (pv 1) pe_int (fun _ _ => rfl)) (pa_cons (pv 5) pa_nil))))))) pss_nil)
      (pss_cons (ps_if (pt_cmpR op_eq (pe_ix ix_tup (pv 1) pe_int (fun _ _ => rfl)) pe_str (nomark _)) (pss_one (ps_ret (pe_tup (pa_cons (pv 2) (pa_cons (pe_ix ix_tup (pv 1) pe_int (fun _ _ => rfl)) (pa_cons (pcall C1 hr (pa_cons (pv 4) (pa_cons (pv 1) pa_nil))) (pa_cons (pv 5) pa_nil))))))) pss_nil)
      (pss_one (ps_ret (pv 0)))))), ?_⟩
    refine ⟨_, rfl, a, _, rfl, sqT_of ha, rfl, _, _, rfl, _, _, rfl, _, _, rfl, _, _, rfl, rfl, ?_⟩
    have s4 : (4 : Nat) ≤ sizeLine := by decide
    refine ⟨_, rfl, t, _, 0, _, rfl, rfl, ht, ch.at0, rfl, _, rfl, ?_⟩
    cases ch with
    | rename n m =>
      have i2 : atI (Ch.rename n m).toV 2 = some (.str m) := rfl
      exact iteDT rfl ⟨_, rfl, t, _, 2, _, rfl, rfl, ht, i2, _, rfl, _, rfl, _, rfl, s4, fun p np => k p _ (same_new np) upd_same⟩
    | dflt n v =>
      have i2 : atI (Ch.dflt n v).toV 2 = some v := rfl
      exact iteD (nes (show ("default" : Str) ≠ "rename" by decide +kernel)) ⟨_, rfl, t, _, 0, _, rfl, rfl, ht, (Ch.dflt n v).at0, rfl, _, rfl, iteDT rfl ⟨_, rfl, _, rfl, _, rfl, t, _, 2, _, rfl, rfl, ht, i2, _, rfl, s4, fun p np => k p _ (same_new np) upd_same⟩⟩
    | great n g way =>
      have i2 : atI (Ch.great n g way).toV 2 = some (.int g) := rfl
      have hw : isWy way = true := by
        have f : (isNm (.str n) && (isGr (.int g) && isWy way)) = true := hf
        rw [Bool.and_eq_true, Bool.and_eq_true] at f
        exact f.2.2
      have e : cutL g way c.dflt = chgV c.name (.great n g way) c.dflt := cut_chg hn hd hdf
      refine iteD (nes (show ("greatest" : Str) ≠ "rename" by decide +kernel)) ⟨_, rfl, t, _, 0, _, rfl, rfl, ht, (Ch.great n g way).at0, rfl, _, rfl, iteD (nes (show ("greatest" : Str) ≠ "default" by decide +kernel)) ⟨_, rfl, t, _, 0, _, rfl, rfl, ht, (Ch.great n g way).at0, rfl, _, rfl, iteDT rfl ⟨_, rfl, _, rfl, t, _, 2, _, rfl, rfl, ht, i2, _, rfl, _, rfl, t, n, way, g, c.dflt, rfl, ht, hw, hd, fun H1 s1 => ⟨_, rfl, s4, fun p np => k p _ (s1.trans (same_new np)) ?_⟩⟩⟩⟩
      rw [e]
      exact upd_same
    | add n g d =>
      exact iteD (nes (show ("add" : Str) ≠ "rename" by decide +kernel)) ⟨_, rfl, t, _, 0, _, rfl, rfl, ht, (Ch.add n g d).at0, rfl, _, rfl, iteD (nes (show ("add" : Str) ≠ "default" by decide +kernel)) ⟨_, rfl, t, _, 0, _, rfl, rfl, ht, (Ch.add n g d).at0, rfl, _, rfl, iteD (nes (show ("add" : Str) ≠ "greatest" by decide +kernel)) ⟨_, rfl, k a H (Same.refl _) ha⟩⟩⟩
    | drop n =>
      exact iteD (nes (show ("drop" : Str) ≠ "rename" by decide +kernel)) ⟨_, rfl, t, _, 0, _, rfl, rfl, ht, (Ch.drop n).at0, rfl, _, rfl, iteD (nes (show ("drop" : Str) ≠ "default" by decide +kernel)) ⟨_, rfl, t, _, 0, _, rfl, rfl, ht, (Ch.drop n).at0, rfl, _, rfl, iteD (nes (show ("drop" : Str) ≠ "greatest" by decide +kernel)) ⟨_, rfl, k a H (Same.refl _) ha⟩⟩⟩
    | fill n i =>
      exact iteD (nes (show ("fill" : Str) ≠ "rename" by decide +kernel)) ⟨_, rfl, t, _, 0, _, rfl, rfl, ht, (Ch.fill n i).at0, rfl, _, rfl, iteD (nes (show ("fill" : Str) ≠ "default" by decide +kernel)) ⟨_, rfl, t, _, 0, _, rfl, rfl, ht, (Ch.fill n i).at0, rfl, _, rfl, iteD (nes (show ("fill" : Str) ≠ "greatest" by decide +kernel)) ⟨_, rfl, k a H (Same.refl _) ha⟩⟩⟩
/-! _law_then, where the change can be done -/
inductive LCols (K : PySem.W.Frag) (H : Hp) : List Addr → List Col → Prop
  | nil : LCols K H [] []
  | cons {a : Addr} {as : List Addr} {c : Col} {cs : List Col} : LcAt K H a c → LCols K H as cs → LCols K H (a :: as) (c :: cs)
theorem LCols.keep {K : PySem.W.Frag} {H H' : Hp} (s : Same H H') : ∀ {as : List Addr} {cs : List Col}, LCols K H as cs → LCols K H' as cs
  | _, _, .nil => .nil
  | _, _, .cons h t => .cons (h.keep s) (t.keep s)
theorem LCols.len {K : PySem.W.Frag} {H : Hp} : ∀ {as : List Addr} {cs : List Col}, LCols K H as cs → as.length = cs.length
  | _, _, .nil => rfl
  | _, _, .cons _ t => congrArg Nat.succ t.len
theorem LCols.at_ {K : PySem.W.Frag} {H : Hp} : ∀ {as : List Addr} {cs : List Col} {i : Nat} {a : Addr}, LCols K H as cs → as[i]? = some a → ∃ c, cs[i]? = some c ∧ LcAt K H a c
  | _, _, _, _, .nil, e => by simp at e
  | _, _, 0, _, .cons h t, e => by
    simp at e
    subst e
    exact ⟨_, rfl, h⟩
  | _, _, i + 1, a, .cons h t, e => by
    obtain ⟨c, h1, h2⟩ := LCols.at_ (i := i) (a := a) t (by simpa using e)
    exact ⟨c, by simpa using h1, h2⟩
theorem LCols.app {K : PySem.W.Frag} {H : Hp} : ∀ {as bs : List Addr} {cs ds : List Col}, LCols K H as cs → LCols K H bs ds → LCols K H (as ++ bs) (cs ++ ds)
  | _, _, _, _, .nil, h => h
  | _, _, _, _, .cons h t, q => .cons h (t.app q)
theorem LCols.filter {K : PySem.W.Frag} {H : Hp} (f : Col → Bool) : ∀ {as : List Addr} {cs : List Col}, LCols K H as cs → LCols K H (keepA f as cs) (cs.filter f)
  | _, _, .nil => .nil
  | _, _, .cons (c := c) h t => by
    have ih := t.filter f
    unfold keepA
    rw [List.filter_cons]
    split
    · exact .cons h ih
    · exact ih
theorem LCols.of_vs {K : PySem.W.Frag} {H : Hp} : ∀ {ys : List V} {cs : List Col}, ys.length = cs.length → (∀ (i : Nat) (y : V), ys[i]? = some y → ∃ a c, y = .ref a ∧ cs[i]? = some c ∧ LcAt K H a c) → ∃ as, ys = as.map V.ref ∧ LCols K H as cs
  | [], [], _, _ => ⟨[], rfl, .nil⟩
  | [], _ :: _, h, _ => by cases h
  | _ :: _, [], h, _ => by cases h
  | y :: ys, c :: cs, h, f => by
    obtain ⟨a, c', rfl, e, hc⟩ := f 0 y rfl
    obtain rfl : c = c' := Option.some.inj e
    obtain ⟨as, rfl, ht⟩ := LCols.of_vs (ys := ys) (cs := cs) (Nat.succ.inj h) fun i y' h1 => f (i + 1) y' (by simpa using h1)
    exact ⟨a :: as, rfl, .cons hc ht⟩
theorem LcAt.keepNL {K : PySem.W.Frag} {H H' : Hp} {a : Addr} {c : Col} (s : KeepNL H H') (h : LcAt K H a c) : LcAt K H' a c := s _ _ (fun _ z => by cases z) h
theorem LcAt.name_ {K : PySem.W.Frag} {H : Hp} {a : Addr} {c c' : Col} (h : LcAt K H a c) (h' : LcAt K H a c') : c.name = c'.name := by
  unfold LcAt at h h'
  rw [h] at h'
  have e := HO.tup.inj (Option.some.inj h')
  exact V.str.inj (List.cons.inj e).1
open Classical in
/-- whether the column at x stays -/
noncomputable def stays (K : PySem.W.Frag) (H : Hp) (n : Str) (x : V) : Bool := decide (∃ (a : Addr) (c : Col), x = .ref a ∧ LcAt K H a c ∧ ¬ c.name = n)
open Classical in
theorem stays_eq {K : PySem.W.Frag} {H : Hp} {n : Str} {a : Addr} {c : Col} (h : LcAt K H a c) : stays K H n (.ref a) = !decide (c.name = n) := by
  unfold stays
  by_cases e : c.name = n
  · rw [decide_eq_true e, decide_eq_false]
    · rfl
    · rintro ⟨a', c', e', h', ne⟩
      cases e'
      exact ne ((h'.name_ h).trans e)
  · rw [decide_eq_false e, decide_eq_true]
    · rfl
    · exact ⟨a, c, rfl, h, e⟩
theorem keepL_map {K : PySem.W.Frag} {H : Hp} (f : Col → Bool) (g : V → Bool) : ∀ {as : List Addr} {cs : List Col}, LCols K H as cs → (∀ a c, LcAt K H a c → a ∈ as → g (.ref a) = f c) → ((as.map V.ref).filter g).map (fun x => x) = (keepA f as cs).map V.ref
  | _, _, .nil, _ => rfl
  | _, _, .cons (a := a) (c := c) h t, q => by
    have ih := keepL_map f g t fun a' c' h' hm => q a' c' h' (List.mem_cons_of_mem _ hm)
    have e := q a c h List.mem_cons_self
    rw [List.map_id'] at ih ⊢
    unfold keepA
    rw [List.map_cons, List.filter_cons, e]
    split
    · rw [List.map_cons, ih]
    · exact ih
def sp_then (K : PySem.W.Frag) : Sp := fun vs H Q _ => ∃ (l t : Addr) (as : List Addr) (cs : List Col) (ch : Ch) (num : Int), vs = [.ref l, .ref t, .int num] ∧ H l = some (.lst (as.map V.ref)) ∧ LCols K H as cs ∧ ChAt K H t ch ∧ as.length ≤ 1000 ∧ ch.fits = true ∧
  (∀ c ∈ cs, valOk c.dflt = true) ∧ (∀ c ∈ behind cs ch num, isIn c.top c.dflt = true) ∧ ∀ (l' : Addr) (as' : List Addr) (H' : Hp), H l' = none → Same H H' → H' l' = some (.lst (as'.map V.ref)) → LCols K H' as' (behind cs ch num) → Q (.ref l') H'
theorem ok_then (T : Tx K mg) : Callee P w K mg base CX0 3 "_law_then" ["_law_cols_here", "_law_change_here", "_law_seat"] [] (sp_then K) := by
  have C1 := ok_col_then (P := P) (w := w) (base := base) T
  refine mkCallee (fd__law_then T) (mg__law_then T) sc__law_then (fun _ _ _ _ _ _ us hl => match us, hl with | [_, _, _], _ => rfl) (fun vs H Q E h => ?_) (fun cdv A outer s H vs Q E hr h => ?_)
  · obtain ⟨l, t, as, cs, ch, num, rfl, _⟩ := h
    rfl
  · obtain ⟨l, t, as, cs, ch, num, rfl, hl, hc, ht, hlen, hf, okc, okb, k⟩ := h
    have nd := sc__law_then.nd
    refine ⟨_, pss_cons (ps_if (pt_cmpR op_eq (pe_ix ix_tup (pv 1) pe_int (fun _ _ => rfl)) pe_str (nomark _)) (pss_one (ps_ret (pe_op op_cat (pv 0) (pe_lst (pa_cons (pe_tup (pa_cons (pe_ix ix_tup (pv 1) pe_int (fun _ _ => rfl)) (pa_cons (pe_ix ix_tup (pv 1) pe_int (fun _ _ => rfl)) (pa_cons (pe_ix ix_tup (pv 1) pe_int (fun _ _ => rfl)) (pa_cons (pv 2) pa_nil))))) pa_nil))))) pss_nil)
      (pss_cons (ps_if (pt_cmpR op_eq (pe_ix ix_tup (pv 1) pe_int (fun _ _ => rfl)) pe_str (nomark _)) (pss_one (ps_ret (pe_lc (own := [("_law_col", 3)]) (g := gName 3) (tt := tTest (tOp rNe (tOp (rIxT K) (tVar 3) (tC (.int 0))) (tOp (rIxT K) (tVar 1) (tC (.int 1))))) (te := tVar 3) rfl nd (pi_list (pv 0)) (blkOk_by (N := ["_law_cols_here", "_law_change_here", "_law_seat", "_law_col"]) (sc := defScope s__law_then) (by decide +kernel))
          (fun _ _ _ _ _ => pg_name (i := 3) nd rfl (Or.inl rfl)) (fun _ _ _ _ _ => pts_one (pt_cmpR op_ne (pe_ix ix_tup (pv 3) pe_int (fun _ _ => rfl)) (pe_ix ix_tup (pv 1) pe_int (fun _ _ => rfl)) (nomark _))) (fun _ _ _ _ _ => pv 3)))) pss_nil)
      (pss_one (ps_ret (pe_lc (own := [("_law_col", 3)]) (g := gName 3) (tt := tYes) (te := tIf (tTest (tOp rEq (tOp (rIxT K) (tVar 3) (tC (.int 0))) (tOp (rIxT K) (tVar 1) (tC (.int 1))))) (tCall (sp_col_then K) [] E0 (tCons (tVar 3) (tCons (tVar 1) tNil))) (tVar 3)) rfl nd (pi_list (pv 0)) (blkOk_by (N := ["_law_cols_here", "_law_change_here", "_law_seat", "_law_col"]) (sc := defScope s__law_then) (by decide +kernel))
          (fun _ _ _ _ _ => pg_name (i := 3) nd rfl (Or.inl rfl)) (fun _ _ _ _ _ => pts_nil) (fun _ _ _ _ _ => pe_ifExp (pt_cmpR op_eq (pe_ix ix_tup (pv 3) pe_int (fun _ _ => rfl)) (pe_ix ix_tup (pv 1) pe_int (fun _ _ => rfl)) (nomark _)) (pcall C1 hr (pa_cons (pv 3) (pa_cons (pv 1) pa_nil))) (pv 3)))))), ?_⟩
    refine ⟨_, rfl, t, _, 0, _, rfl, rfl, ht, ch.at0, rfl, _, rfl, ?_⟩
    have other : ∀ ch' : Ch, ch' = ch → behind cs ch' num = cs.map (fun c => if c.name = ch'.name then chgC c ch' else c) → tRet (tLc (iList K (tVar 0)) (gName 3) tYes (tIf (tTest (tOp rEq (tOp (rIxT K) (tVar 3) (tC (.int 0))) (tOp (rIxT K) (tVar 1) (tC (.int 1))))) (tCall (sp_col_then K) [] E0 (tCons (tVar 3) (tCons (tVar 1) tNil))) (tVar 3)) (List.map (fun x => x.2) [(("_law_col" : Str), 3)]))
        { nx := fun _ H' => Q V.non H', rt := Q } [some (.ref l), some (.ref t), some (.int num), none] H := fun ch' e0 e1 => by
      subst e0
      refine tlc_G (fun i y H' => ∃ a c, y = .ref a ∧ (behind cs ch' num)[i]? = some c ∧ LcAt K H' a c) (fun i y H1 H2 s2 ⟨a, c, h1, h2, h3⟩ => ⟨a, c, h1, h2, h3.keepNL s2⟩) (fun R h => ⟨_, rfl, h l H (Same.refl _) (sqL_of hl)⟩) (by rw [List.length_map]; omega) (fun _ => rfl) ?_ ?_
      · intro i x hx H1 s1 R hR
        rw [List.getElem?_map] at hx
        cases ha : as[i]? with
        | none =>
          rw [ha] at hx
          cases hx
        | some a =>
          rw [ha] at hx
          obtain rfl := Option.some.inj hx
          obtain ⟨c, hci, hat⟩ := hc.at_ ha
          have hb : (behind cs ch' num)[i]? = some (if c.name = ch'.name then chgC c ch' else c) := by rw [e1, List.getElem?_map, hci]; rfl
          have ht1 := ht.keep s1
          refine ⟨_, rfl, a, _, 0, _, rfl, rfl, sqT_of (hat.keep s1), rfl, _, rfl, t, _, 1, _, rfl, rfl, ht1, ch'.at1, rfl, _, rfl, ?_⟩
          by_cases e : c.name = ch'.name
          · rw [if_pos e] at hb
            rw [decide_eq_true (show V.str c.name = V.str ch'.name by rw [e])]
            exact iteT ⟨_, rfl, _, rfl, a, t, c, ch', rfl, hat.keep s1, ht1, e, hf, okc _ (List.mem_of_getElem? hci), okb _ (List.mem_of_getElem? hb), fun a' H2 s2 h2 => hR _ _ s2 ⟨a', _, rfl, hb, h2⟩⟩
          · rw [if_neg e] at hb
            rw [decide_eq_false (fun z => e (V.str.inj z))]
            exact iteF ⟨_, rfl, hR _ _ (Same.refl _) ⟨a, _, rfl, hb, hat.keep s1⟩⟩
      · intro D ys H' nD s' hD hlen' hy
        obtain ⟨as', rfl, hcs⟩ := LCols.of_vs (by rw [hlen', List.length_map, hc.len, e1, List.length_map]) hy
        exact k D as' H' nD s' hD hcs
    cases ch with
    | add n g d =>
      have i1 : atI (Ch.add n g d).toV 1 = some (.str n) := rfl
      have i2 : atI (Ch.add n g d).toV 2 = some (.int g) := rfl
      have i3 : atI (Ch.add n g d).toV 3 = some d := rfl
      refine iteDT rfl ⟨_, rfl, _, rfl, t, _, 1, _, rfl, rfl, ht, i1, _, rfl, t, _, 2, _, rfl, rfl, ht, i2, _, rfl, t, _, 3, _, rfl, rfl, ht, i3, _, rfl, (by show 4 ≤ sizeLine; decide), fun p np => ⟨by show 1 ≤ sizeLine; decide, fun q nq => ⟨l, q, as.map V.ref, [.ref p], rfl, rfl, ?_, upd_same, ?_, fun l' nl' => ?_⟩⟩⟩
      · exact same_new nq _ _ (same_new np _ _ hl)
      · rw [List.length_map]
        exact Nat.le_trans (Nat.add_le_add_right hlen 1) (by decide)
      · have s2 := (same_new (o := .lst [.ref p]) nq).trans (same_new (o := .lst (as.map V.ref ++ [.ref p])) nl')
        have s5 := (same_new (o := .tup [.str n, .int g, d, .int num]) np).trans s2
        refine k l' (as ++ [p]) _ ?_ s5 (by rw [List.map_append]; exact upd_same) ((hc.keep s5).app (.cons (s2 _ _ upd_same) .nil))
        exact ((same_new np).trans (same_new nq)).free nl'
    | drop n =>
      refine iteD (nes (show ("drop" : Str) ≠ "add" by decide +kernel)) ⟨_, rfl, t, _, 0, _, rfl, rfl, ht, (Ch.drop n).at0, rfl, _, rfl, iteDT rfl ?_⟩
      refine tlc_L (stays K H n) (fun x => x) (fun R h => ⟨_, rfl, h l H (Same.refl _) (sqL_of hl)⟩) (by rw [List.length_map]; omega) (fun _ => rfl) ?_ (fun x _ _ H1 _ R h => ⟨_, rfl, h H1 (Same.refl _)⟩) ?_
      · intro x hx H1 s1 R hR
        obtain ⟨a, ha, rfl⟩ := List.mem_map.mp hx
        obtain ⟨i, hi⟩ := List.mem_iff_getElem?.mp ha
        obtain ⟨c, hc1, hat⟩ := hc.at_ hi
        rw [stays_eq hat] at hR
        have e : decide (V.str c.name = V.str n) = decide (c.name = n) := by
          by_cases e : c.name = n
          · rw [decide_eq_true e, decide_eq_true (by rw [e])]
          · rw [decide_eq_false e, decide_eq_false (fun z => e (V.str.inj z))]
        rw [← e] at hR
        exact ⟨_, rfl, a, _, 0, _, rfl, rfl, sqT_of (hat.keep s1), rfl, _, rfl, t, _, 1, _, rfl, rfl, ht.keep s1, (Ch.drop n).at1, rfl, _, rfl, hR _ (Same.refl _)⟩
      · intro D H' nD s' hD
        rw [keepL_map (fun c => !decide (c.name = n)) (stays K H n) hc fun a c h _ => stays_eq h] at hD
        exact k D _ H' nD s' hD ((hc.keep s').filter _)
    | rename n m =>
      exact iteD (nes (show ("rename" : Str) ≠ "add" by decide +kernel)) ⟨_, rfl, t, _, 0, _, rfl, rfl, ht, (Ch.rename n m).at0, rfl, _, rfl, iteD (nes (show ("rename" : Str) ≠ "drop" by decide +kernel)) (other _ rfl rfl)⟩
    | great n g way =>
      exact iteD (nes (show ("greatest" : Str) ≠ "add" by decide +kernel)) ⟨_, rfl, t, _, 0, _, rfl, rfl, ht, (Ch.great n g way).at0, rfl, _, rfl, iteD (nes (show ("greatest" : Str) ≠ "drop" by decide +kernel)) (other _ rfl rfl)⟩
    | dflt n v =>
      exact iteD (nes (show ("default" : Str) ≠ "add" by decide +kernel)) ⟨_, rfl, t, _, 0, _, rfl, rfl, ht, (Ch.dflt n v).at0, rfl, _, rfl, iteD (nes (show ("default" : Str) ≠ "drop" by decide +kernel)) (other _ rfl rfl)⟩
    | fill n v =>
      exact iteD (nes (show ("fill" : Str) ≠ "add" by decide +kernel)) ⟨_, rfl, t, _, 0, _, rfl, rfl, ht, (Ch.fill n v).at0, rfl, _, rfl, iteD (nes (show ("fill" : Str) ≠ "drop" by decide +kernel)) (other _ rfl rfl)⟩
theorem inV_new {ns : List Str} {n : Str} (h : n ∉ ns) : inV (.str n) (ns.map V.str) = false := by
  unfold inV
  rw [List.any_eq_false]
  intro y hy
  obtain ⟨m, hm, rfl⟩ := List.mem_map.mp hy
  intro e
  exact h ((of_decide_eq_true (show decide (m = n) = true from e)) ▸ hm)

/-! _law_word: the same word as hindrance's -/
theorem inV_names {cs : List Col} {n : Str} : inV (.str n) ((cs.map (·.name)).map V.str) = (cs.find? (isN n)).isSome := by
  cases h : cs.find? (isN n) with
  | none => exact inV_new (find_no h)
  | some c =>
    show inV (.str n) ((cs.map (·.name)).map V.str) = true
    unfold inV
    rw [List.any_eq_true]
    have hc := List.find?_some h
    exact ⟨.str c.name, List.mem_map.mpr ⟨c.name, List.mem_map.mpr ⟨c, List.mem_of_find?_eq_some h, rfl⟩, rfl⟩, by
      have : c.name = n := of_decide_eq_true hc
      show (c.name == n) = true
      rw [this]
      exact beq_self_eq_true _⟩
theorem names_of {ys : List V} {cs : List Col} (hl : ys.length = cs.length) (h : ∀ (i : Nat) (y : V), ys[i]? = some y → ∃ c, cs[i]? = some c ∧ y = .str c.name) : ys = (cs.map (·.name)).map V.str := by
  refine List.ext_getElem? fun i => ?_
  rw [List.getElem?_map, List.getElem?_map]
  cases e : ys[i]? with
  | none =>
    have : cs[i]? = none := List.getElem?_eq_none (by have := List.getElem?_eq_none_iff.mp e; omega)
    rw [this]
    rfl
  | some y =>
    obtain ⟨c, h1, h2⟩ := h i y e
    rw [h1, h2]
    rfl
theorem find_at {n : Str} : ∀ {cs : List Col} {e : Col}, cs.find? (isN n) = some e → ∃ j : Nat, cs[j]? = some e ∧ e.name = n ∧ ∀ (m : Nat) (c : Col), m < j → cs[m]? = some c → ¬ c.name = n
  | [], _, h => by simp at h
  | c :: cs, e, h => by
    rw [List.find?_cons] at h
    by_cases q : c.name = n
    · rw [show isN n c = true from decide_eq_true q] at h
      obtain rfl := Option.some.inj h
      exact ⟨0, rfl, q, fun m c hm => by omega⟩
    · rw [show isN n c = false from decide_eq_false q] at h
      obtain ⟨j, h1, h2, h3⟩ := find_at h
      refine ⟨j + 1, by simpa using h1, h2, fun m c' hm hc => ?_⟩
      cases m with
      | zero =>
        obtain rfl : c = c' := by simpa using hc
        exact q
      | succ m => exact h3 m c' (by omega) (by simpa using hc)
theorem names_flat (cs : List Col) : ((cs.map (·.name)).map V.str).all flatV = true := by
  rw [List.all_map]
  exact List.all_eq_true.mpr fun _ _ => rfl
theorem names_at {cs : List Col} {j : Nat} {e : Col} (h : cs[j]? = some e) : ((cs.map (·.name)).map V.str)[j]? = some (.str e.name) := by
  rw [List.getElem?_map, List.getElem?_map, h]
  rfl
theorem names_before {n : Str} {cs : List Col} {j : Nat} (h : ∀ (m : Nat) (c : Col), m < j → cs[m]? = some c → ¬ c.name = n) (m : Nat) (z : V) (hm : m < j) (hz : ((cs.map (·.name)).map V.str)[m]? = some z) : eqV z (.str n) = false := by
  rw [List.getElem?_map, List.getElem?_map] at hz
  cases hc : cs[m]? with
  | none =>
    rw [hc] at hz
    cases hz
  | some c =>
    rw [hc] at hz
    obtain rfl := Option.some.inj hz
    exact beq_eq_false_iff_ne.mpr (h m c hm hc)
theorem great_word {e : Col} {n : Str} {g : Int} {way : Str} (en : e.name = n) (hw : isWy way = true) (hv : valOk e.dflt = true) : chgV e.name (.great n g way) e.dflt = .str "missing" ↔ way = "refuse" ∧ ∃ j, e.dflt = .int j ∧ g < j := by
  unfold chgV
  rw [if_pos (show (Ch.great n g way).name = e.name from en.symm)]
  cases hd : e.dflt with
  | non => exact ⟨fun z => (by cases z), fun z => (by obtain ⟨_, j, z, _⟩ := z; cases z)⟩
  | int j =>
    show (if g < j then abv g way else .int j) = V.str "missing" ↔ _
    by_cases q : g < j
    · rw [if_pos q]
      unfold abv
      have hw' : (decide (way = "cut") || (decide (way = "none") || decide (way = "refuse"))) = true := hw
      rw [Bool.or_eq_true, Bool.or_eq_true, decide_eq_true_iff, decide_eq_true_iff, decide_eq_true_iff] at hw'
      rcases hw' with rfl | rfl | rfl
      · rw [if_pos rfl]
        exact ⟨fun z => (by cases z), fun z => absurd z.1 (by decide +kernel)⟩
      · rw [if_neg (by decide +kernel), if_pos rfl]
        exact ⟨fun z => (by cases z), fun z => absurd z.1 (by decide +kernel)⟩
      · rw [if_neg (by decide +kernel), if_neg (by decide +kernel)]
        exact ⟨fun _ => ⟨rfl, j, rfl, q⟩, fun _ => rfl⟩
    · rw [if_neg q]
      exact ⟨fun z => (by cases z), fun z => (by obtain ⟨_, j', z, q'⟩ := z; cases z; exact absurd q' q)⟩
  | _ => rw [hd] at hv; cases hv
def sp_word (K : PySem.W.Frag) : Sp := fun vs H Q _ => ∃ (l t : Addr) (as : List Addr) (cs : List Col) (ch : Ch), vs = [.ref l, .ref t] ∧ H l = some (.lst (as.map V.ref)) ∧ LCols K H as cs ∧ ChAt K H t ch ∧ as.length ≤ 1000 ∧ ch.fits = true ∧ (∀ c ∈ cs, ColOk c) ∧ ∀ H', Same H H' → Q (hindV cs ch) H'
theorem ok_word (T : Tx K mg) : Callee P w K mg base CX0 1 "_law_word" ["_law_cols_here", "_law_change_here"] [] (sp_word K) := by
  refine mkCallee (fd__law_word T) (mg__law_word T) sc__law_word (fun _ _ _ _ _ _ us hl => match us, hl with | [_, _], _ => rfl) (fun vs H Q E h => ?_) (fun cdv A outer s H vs Q E hr h => ?_)
  · obtain ⟨l, t, as, cs, ch, rfl, _⟩ := h
    rfl
  · obtain ⟨l, t, as, cs, ch, rfl, hl, hc, ht, hlen, hf, hok, k⟩ := h
    have nd := sc__law_word.nd
    refine ⟨_, pss_cons (ps_setLc (i := 3) (own := [("_law_col", 2)]) (g := gName 2) (tt := tYes) (te := tOp (rIxT K) (tVar 2) (tC (.int 0))) rfl nd rfl rfl (by rfl) (pi_list (pv 0)) (blkOk_by (N := ["_law_cols_here", "_law_change_here", "_law_col", "_law_names"]) (sc := defScope s__law_word) (by decide +kernel))
          (fun _ _ _ _ _ => pg_name (i := 2) nd rfl (Or.inl rfl)) (fun _ _ _ _ _ => pts_nil) (fun _ _ _ _ _ => pe_ix ix_tup (pv 2) pe_int (fun _ _ => rfl)))
      (pss_cons (ps_if (pt_cmpR op_eq (pe_ix ix_tup (pv 1) pe_int (fun _ _ => rfl)) pe_str (nomark _))
        (pss_cons (ps_if (pt_cmpR op_in_seq (pe_ix ix_tup (pv 1) pe_int (fun _ _ => rfl)) (pv 3) (by rfl)) (pss_one (ps_ret pe_str)) pss_nil)
        (pss_cons (ps_if (pt_cmpR op_gt (pe_callB call_len (by rfl) (fr_len T) PySem.boot_len (pa_cons (pv 0) pa_nil)) pe_int (nomark _)) (pss_one (ps_ret pe_str)) pss_nil)
        (pss_one (ps_ret (pe_ifExp (PW.pt (pw_and (pt_cmpR op_notN (pe_ix ix_tup (pv 1) pe_int (fun _ _ => rfl)) pe_non (nomark _)) (pw_and1 (pt_cmpR op_gt (pe_ix ix_tup (pv 1) pe_int (fun _ _ => rfl)) (pe_ix ix_tup (pv 1) pe_int (fun _ _ => rfl)) (nomark _))))) pe_str pe_non))))) pss_nil)
      (pss_cons (ps_if (pt_cmpR op_notIn_seq (pe_ix ix_tup (pv 1) pe_int (fun _ _ => rfl)) (pv 3) (by rfl)) (pss_one (ps_ret pe_str)) pss_nil)
      (pss_cons (ps_set (i := 2) nd rfl (Or.inl rfl) (pe_ix ix_list (pv 0) (pe_bm PySem.F.plainAttrs_list PySem.F.slot_list_index PySem.F.type_list_index mt_index (pv 3) (pa_cons (pe_ix ix_tup (pv 1) pe_int (fun _ _ => rfl)) pa_nil)) (fun _ _ => rfl)))
      (pss_cons (ps_if (pt_cmpR op_eq (pe_ix ix_tup (pv 1) pe_int (fun _ _ => rfl)) pe_str (nomark _)) (pss_one (ps_ret (pe_ifExp (pt_cmpR op_in_seq (pe_ix ix_tup (pv 1) pe_int (fun _ _ => rfl)) (pv 3) (by rfl)) pe_str pe_non))) pss_nil)
      (pss_cons (ps_if (pt_cmpR op_eq (pe_ix ix_tup (pv 1) pe_int (fun _ _ => rfl)) pe_str (nomark _)) (pss_one (ps_ret (pe_ifExp (pt_cmpR op_eq (pe_callB call_len (by rfl) (fr_len T) PySem.boot_len (pa_cons (pv 0) pa_nil)) pe_int (nomark _)) pe_str pe_non))) pss_nil)
      (pss_cons (ps_if (pt_cmpR op_in_seq (pe_ix ix_tup (pv 1) pe_int (fun _ _ => rfl)) (pe_lst (pa_cons pe_str (pa_cons pe_str pa_nil))) (by rfl)) (pss_one (ps_ret (pe_ifExp (PW.pt (pw_and (pt_cmpR op_notN (pe_ix ix_tup (pv 1) pe_int (fun _ _ => rfl)) pe_non (nomark _)) (pw_and1 (pt_cmpR op_gt (pe_ix ix_tup (pv 1) pe_int (fun _ _ => rfl)) (pe_ix ix_tup (pv 2) pe_int (fun _ _ => rfl)) (nomark _))))) pe_str pe_non))) pss_nil)
      (pss_one (ps_ret (pe_ifExp (PW.pt (pw_and (pt_cmpR op_eq (pe_ix ix_tup (pv 1) pe_int (fun _ _ => rfl)) pe_str (nomark _)) (pw_and (pt_cmpR op_notN (pe_ix ix_tup (pv 2) pe_int (fun _ _ => rfl)) pe_non (nomark _)) (pw_and1 (pt_cmpR op_gt (pe_ix ix_tup (pv 2) pe_int (fun _ _ => rfl)) (pe_ix ix_tup (pv 1) pe_int (fun _ _ => rfl)) (nomark _)))))) pe_str pe_non))))))))), ?_⟩
    refine q_asgX ?_
    refine tlc_G (K := K) (xs := as.map V.ref) (fun i y _ => ∃ c, cs[i]? = some c ∧ y = .str c.name) (fun i y H1 H2 s2 h => h) (fun R h => ⟨_, rfl, h l H (Same.refl _) (sqL_of hl)⟩) (by rw [List.length_map]; omega) (fun _ => rfl) ?_ ?_
    · intro i x hx H1 s1 R hR
      rw [List.getElem?_map] at hx
      cases ha : as[i]? with
      | none =>
        rw [ha] at hx
        cases hx
      | some a =>
        rw [ha] at hx
        obtain rfl := Option.some.inj hx
        obtain ⟨c, hci, hat⟩ := hc.at_ ha
        exact ⟨_, rfl, a, _, 0, _, rfl, rfl, sqT_of (hat.keep s1), rfl, hR _ _ (Same.refl _) ⟨c, hci, rfl⟩⟩
    · intro D ys H1 nD s1 hD hlen' hy
      obtain rfl := names_of (by rw [hlen', List.length_map, hc.len]) hy
      have k1 : ∀ H', Same H1 H' → Q (hindV cs ch) H' := fun H' s => k H' (s1.trans s)
      have hl1 := s1 _ _ hl
      have hc1 := hc.keep s1
      have ht1 := ht.keep s1
      clear hy hlen' nD k hl hc ht
      have hfl := names_flat cs
      have hL : LenV K (.ref l) H1 cs.length := .inl ⟨_, sqL_of hl1, by rw [List.length_map]; exact hc1.len.symm⟩
      refine ⟨_, rfl, t, _, 0, _, rfl, rfl, ht1, ch.at0, rfl, _, rfl, ?_⟩
      cases ch with
      | add n g d =>
        have i1 : atI (Ch.add n g d).toV 1 = some (.str n) := rfl
        have i2 : atI (Ch.add n g d).toV 2 = some (.int g) := rfl
        have i3 : atI (Ch.add n g d).toV 3 = some d := rfl
        refine iteDT rfl ⟨_, rfl, t, _, 1, _, rfl, rfl, ht1, i1, _, rfl, D, _, rfl, .inl (sqL_of hD), rfl, hfl, _, rfl, ?_⟩
        show if inV (.str n) ((cs.map (·.name)).map V.str) = true then _ else _
        rw [inV_names]
        cases hx : cs.find? (isN n) with
        | some e => exact iteT (by have q := k1 H1 (Same.refl _); simp only [hindV, addHind, hx] at q; exact q)
        | none =>
          refine iteF (nxt ⟨_, rfl, _, cs.length, rfl, hL, _, _, rfl, rfl, _, rfl, ?_⟩)
          have kn : ∀ v, hindV cs (.add n g d) = v → Q v H1 := fun v e => by rw [← e]; exact k1 H1 (Same.refl _)
          by_cases h6 : 6 ≤ cs.length
          · exact iteDT (by omega) (kn _ (by simp only [hindV, addHind, hx]; rw [if_neg (by decide), if_pos h6]))
          · refine iteD (by omega) (nxt ⟨_, rfl, t, _, 3, _, rfl, rfl, ht1, i3, rfl, _, rfl, ?_⟩)
            have hv : isVal d = true := by
              have hf' : (isNm (.str n) && (isGr (.int g) && isVal d)) = true := hf
              rw [Bool.and_eq_true, Bool.and_eq_true] at hf'
              exact hf'.2.2
            cases d with
            | non => exact iteF (iteF (kn _ (by simp only [hindV, addHind, hx]; rw [if_neg (by decide), if_neg h6]; rfl)))
            | int j =>
              refine iteT ⟨_, rfl, t, _, 3, _, rfl, rfl, ht1, i3, _, rfl, t, _, 2, _, rfl, rfl, ht1, i2, _, _, rfl, rfl, _, rfl, ?_⟩
              have h0 : 0 ≤ j := of_decide_eq_true hv
              by_cases q : g < j
              · refine iteDT q (kn _ ?_)
                simp only [hindV, addHind, hx]
                rw [if_neg (by decide), if_neg h6, if_neg]
                show ¬ (decide (0 ≤ j) && decide (j ≤ g)) = true
                rw [decide_eq_false (show ¬ j ≤ g by omega), Bool.and_false]
                decide
              · refine iteD q (kn _ ?_)
                simp only [hindV, addHind, hx]
                rw [if_neg (by decide), if_neg h6, if_pos]
                show (decide (0 ≤ j) && decide (j ≤ g)) = true
                rw [decide_eq_true (show j ≤ g by omega), decide_eq_true h0]
                rfl
            | _ => cases hv
      | drop n =>
        have i1 : atI (Ch.drop n).toV 1 = some (.str n) := rfl
        have i0 : atI (Ch.drop n).toV 0 = some (.str "drop") := rfl
        have kn : ∀ wv, hindV cs (.drop n) = wv → ∀ H', Same H1 H' → Q wv H' := fun wv e H' s' => by rw [← e]; exact k1 H' s'
        refine iteD (nes (show ("drop" : Str) ≠ "add" by decide +kernel)) (nxt ⟨_, rfl, t, _, 1, _, rfl, rfl, ht1, i1, _, rfl, D, _, rfl, .inl (sqL_of hD), rfl, hfl, _, rfl, ?_⟩)
        show if (!inV (.str n) ((cs.map (·.name)).map V.str)) = true then _ else _
        rw [inV_names]
        cases hx : cs.find? (isN n) with
        | none => exact iteT (kn _ (by simp only [hindV, hx]) H1 (Same.refl _))
        | some e =>
          obtain ⟨j, hj, en, hb⟩ := find_at hx
          have hja : j < as.length := by rw [hc1.len]; exact (List.getElem?_eq_some_iff.mp hj).1
          have haj := List.getElem?_eq_getElem hja
          obtain ⟨e', he', hat⟩ := hc1.at_ haj
          obtain rfl : e = e' := Option.some.inj (hj.symm.trans he')
          have hix := lref_at haj
          refine iteF (nxt ⟨_, rfl, _, rfl, .inl ⟨rfl, _, sqL_of hD⟩, _, rfl, t, _, 1, _, rfl, rfl, ht1, i1, D, _, .str n, j, _, rfl, rfl, sqL_of hD, rfl, hfl, names_at hj, (by rw [en]; exact beq_self_eq_true _), names_before hb, l, _, _, _, rfl, rfl, sqL_of hl1, hix, ?_⟩)
          have hs := sqT_of (K := K) hat
          refine ⟨_, rfl, t, _, 0, _, rfl, rfl, ht1, i0, rfl, _, rfl, ?_⟩
          refine iteD (nes (show ("drop" : Str) ≠ "rename" by decide +kernel)) (nxt ⟨_, rfl, t, _, 0, _, rfl, rfl, ht1, i0, rfl, _, rfl, ?_⟩)
          refine iteDT rfl ⟨_, rfl, _, cs.length, rfl, hL, rfl, _, rfl, ?_⟩
          by_cases h1 : cs.length = 1
          · exact iteDT (by rw [h1]; rfl) (kn _ (by simp only [hindV, hx]; rw [if_pos h1]) H1 (Same.refl _))
          · exact iteD (nei (by omega)) (kn _ (by simp only [hindV, hx]; rw [if_neg h1]) H1 (Same.refl _))
      | rename n m =>
        have i1 : atI (Ch.rename n m).toV 1 = some (.str n) := rfl
        have i0 : atI (Ch.rename n m).toV 0 = some (.str "rename") := rfl
        have kn : ∀ wv, hindV cs (.rename n m) = wv → ∀ H', Same H1 H' → Q wv H' := fun wv e H' s' => by rw [← e]; exact k1 H' s'
        refine iteD (nes (show ("rename" : Str) ≠ "add" by decide +kernel)) (nxt ⟨_, rfl, t, _, 1, _, rfl, rfl, ht1, i1, _, rfl, D, _, rfl, .inl (sqL_of hD), rfl, hfl, _, rfl, ?_⟩)
        show if (!inV (.str n) ((cs.map (·.name)).map V.str)) = true then _ else _
        rw [inV_names]
        cases hx : cs.find? (isN n) with
        | none => exact iteT (kn _ (by simp only [hindV, hx]) H1 (Same.refl _))
        | some e =>
          obtain ⟨j, hj, en, hb⟩ := find_at hx
          have hja : j < as.length := by rw [hc1.len]; exact (List.getElem?_eq_some_iff.mp hj).1
          have haj := List.getElem?_eq_getElem hja
          obtain ⟨e', he', hat⟩ := hc1.at_ haj
          obtain rfl : e = e' := Option.some.inj (hj.symm.trans he')
          have hix := lref_at haj
          refine iteF (nxt ⟨_, rfl, _, rfl, .inl ⟨rfl, _, sqL_of hD⟩, _, rfl, t, _, 1, _, rfl, rfl, ht1, i1, D, _, .str n, j, _, rfl, rfl, sqL_of hD, rfl, hfl, names_at hj, (by rw [en]; exact beq_self_eq_true _), names_before hb, l, _, _, _, rfl, rfl, sqL_of hl1, hix, ?_⟩)
          have hs := sqT_of (K := K) hat
          refine ⟨_, rfl, t, _, 0, _, rfl, rfl, ht1, i0, rfl, _, rfl, ?_⟩
          have i2 : atI (Ch.rename n m).toV 2 = some (.str m) := rfl
          refine iteDT rfl ⟨_, rfl, t, _, 2, _, rfl, rfl, ht1, i2, _, rfl, D, _, rfl, .inl (sqL_of hD), rfl, hfl, _, rfl, ?_⟩
          show if inV (.str m) ((cs.map (·.name)).map V.str) = true then _ else _
          rw [inV_names]
          cases hm : cs.find? (isN m) with
          | none => exact iteF (kn _ (by simp only [hindV, hx, hm]; rfl) H1 (Same.refl _))
          | some e2 => exact iteT (kn _ (by simp only [hindV, hx, hm]; rfl) H1 (Same.refl _))
      | dflt n v =>
        have i1 : atI (Ch.dflt n v).toV 1 = some (.str n) := rfl
        have i0 : atI (Ch.dflt n v).toV 0 = some (.str "default") := rfl
        have kn : ∀ wv, hindV cs (.dflt n v) = wv → ∀ H', Same H1 H' → Q wv H' := fun wv e H' s' => by rw [← e]; exact k1 H' s'
        refine iteD (nes (show ("default" : Str) ≠ "add" by decide +kernel)) (nxt ⟨_, rfl, t, _, 1, _, rfl, rfl, ht1, i1, _, rfl, D, _, rfl, .inl (sqL_of hD), rfl, hfl, _, rfl, ?_⟩)
        show if (!inV (.str n) ((cs.map (·.name)).map V.str)) = true then _ else _
        rw [inV_names]
        cases hx : cs.find? (isN n) with
        | none => exact iteT (kn _ (by simp only [hindV, hx]) H1 (Same.refl _))
        | some e =>
          obtain ⟨j, hj, en, hb⟩ := find_at hx
          have hja : j < as.length := by rw [hc1.len]; exact (List.getElem?_eq_some_iff.mp hj).1
          have haj := List.getElem?_eq_getElem hja
          obtain ⟨e', he', hat⟩ := hc1.at_ haj
          obtain rfl : e = e' := Option.some.inj (hj.symm.trans he')
          have hix := lref_at haj
          refine iteF (nxt ⟨_, rfl, _, rfl, .inl ⟨rfl, _, sqL_of hD⟩, _, rfl, t, _, 1, _, rfl, rfl, ht1, i1, D, _, .str n, j, _, rfl, rfl, sqL_of hD, rfl, hfl, names_at hj, (by rw [en]; exact beq_self_eq_true _), names_before hb, l, _, _, _, rfl, rfl, sqL_of hl1, hix, ?_⟩)
          have hs := sqT_of (K := K) hat
          refine ⟨_, rfl, t, _, 0, _, rfl, rfl, ht1, i0, rfl, _, rfl, ?_⟩
          refine iteD (nes (show ("default" : Str) ≠ "rename" by decide +kernel)) (nxt ⟨_, rfl, t, _, 0, _, rfl, rfl, ht1, i0, rfl, _, rfl, ?_⟩)
          refine iteD (nes (show ("default" : Str) ≠ "drop" by decide +kernel)) (nxt ⟨_, rfl, t, _, 0, _, rfl, rfl, ht1, i0, (by show 2 ≤ sizeLine; decide), fun q nq => ⟨q, _, rfl, .inl (sqL_of upd_same), rfl, rfl, _, rfl, ?_⟩⟩)
          have s2 := same_new (o := .lst [V.str "default", .str "fill"]) nq
          have ht2 := same_tup s2 ht1
          have hs2 := same_tup s2 hs
          have i2 : atI (Ch.dflt n v).toV 2 = some v := rfl
          refine iteT ⟨_, rfl, t, _, 2, _, rfl, rfl, ht2, i2, rfl, _, rfl, ?_⟩
          have hv : isVal v = true := by
            have hf' : (isNm (.str n) && isVal v) = true := hf
            rw [Bool.and_eq_true] at hf'
            exact hf'.2
          cases v with
          | non => exact iteF (iteF (kn _ (by simp only [hindV, hx]; rw [if_pos (show isIn e.top V.non = true from rfl)]) _ s2))
          | int j2 =>
              refine iteT ⟨_, rfl, t, _, 2, _, rfl, rfl, ht2, i2, _, rfl, as[j], _, 1, _, rfl, rfl, hs2, rfl, _, _, rfl, rfl, _, rfl, ?_⟩
              have h0 : 0 ≤ j2 := of_decide_eq_true hv
              by_cases q2 : e.top < j2
              · refine iteDT q2 (kn _ ?_ _ s2)
                simp only [hindV, hx]
                rw [if_neg]
                show ¬ (decide (0 ≤ j2) && decide (j2 ≤ e.top)) = true
                rw [decide_eq_false (show ¬ j2 ≤ e.top by omega), Bool.and_false]
                decide
              · refine iteD q2 (kn _ ?_ _ s2)
                simp only [hindV, hx]
                rw [if_pos]
                show (decide (0 ≤ j2) && decide (j2 ≤ e.top)) = true
                rw [decide_eq_true (show j2 ≤ e.top by omega), decide_eq_true h0]
                rfl
          | _ => cases hv
      | fill n j2 =>
        have i1 : atI (Ch.fill n j2).toV 1 = some (.str n) := rfl
        have i0 : atI (Ch.fill n j2).toV 0 = some (.str "fill") := rfl
        have kn : ∀ wv, hindV cs (.fill n j2) = wv → ∀ H', Same H1 H' → Q wv H' := fun wv e H' s' => by rw [← e]; exact k1 H' s'
        refine iteD (nes (show ("fill" : Str) ≠ "add" by decide +kernel)) (nxt ⟨_, rfl, t, _, 1, _, rfl, rfl, ht1, i1, _, rfl, D, _, rfl, .inl (sqL_of hD), rfl, hfl, _, rfl, ?_⟩)
        show if (!inV (.str n) ((cs.map (·.name)).map V.str)) = true then _ else _
        rw [inV_names]
        cases hx : cs.find? (isN n) with
        | none => exact iteT (kn _ (by simp only [hindV, hx]) H1 (Same.refl _))
        | some e =>
          obtain ⟨j, hj, en, hb⟩ := find_at hx
          have hja : j < as.length := by rw [hc1.len]; exact (List.getElem?_eq_some_iff.mp hj).1
          have haj := List.getElem?_eq_getElem hja
          obtain ⟨e', he', hat⟩ := hc1.at_ haj
          obtain rfl : e = e' := Option.some.inj (hj.symm.trans he')
          have hix := lref_at haj
          refine iteF (nxt ⟨_, rfl, _, rfl, .inl ⟨rfl, _, sqL_of hD⟩, _, rfl, t, _, 1, _, rfl, rfl, ht1, i1, D, _, .str n, j, _, rfl, rfl, sqL_of hD, rfl, hfl, names_at hj, (by rw [en]; exact beq_self_eq_true _), names_before hb, l, _, _, _, rfl, rfl, sqL_of hl1, hix, ?_⟩)
          have hs := sqT_of (K := K) hat
          refine ⟨_, rfl, t, _, 0, _, rfl, rfl, ht1, i0, rfl, _, rfl, ?_⟩
          refine iteD (nes (show ("fill" : Str) ≠ "rename" by decide +kernel)) (nxt ⟨_, rfl, t, _, 0, _, rfl, rfl, ht1, i0, rfl, _, rfl, ?_⟩)
          refine iteD (nes (show ("fill" : Str) ≠ "drop" by decide +kernel)) (nxt ⟨_, rfl, t, _, 0, _, rfl, rfl, ht1, i0, (by show 2 ≤ sizeLine; decide), fun q nq => ⟨q, _, rfl, .inl (sqL_of upd_same), rfl, rfl, _, rfl, ?_⟩⟩)
          have s2 := same_new (o := .lst [V.str "default", .str "fill"]) nq
          have ht2 := same_tup s2 ht1
          have hs2 := same_tup s2 hs
          have i2 : atI (Ch.fill n j2).toV 2 = some (.int j2) := rfl
          refine iteT ⟨_, rfl, t, _, 2, _, rfl, rfl, ht2, i2, rfl, _, rfl, ?_⟩
          have hv : 0 ≤ j2 := by
            have hf' : (isNm (.str n) && decide (0 ≤ j2)) = true := hf
            rw [Bool.and_eq_true] at hf'
            exact of_decide_eq_true hf'.2
          refine iteT ⟨_, rfl, t, _, 2, _, rfl, rfl, ht2, i2, _, rfl, as[j], _, 1, _, rfl, rfl, hs2, rfl, _, _, rfl, rfl, _, rfl, ?_⟩
          have h0 : 0 ≤ j2 := hv
          by_cases q2 : e.top < j2
          · refine iteDT q2 (kn _ ?_ _ s2)
            simp only [hindV, hx]
            rw [if_neg]
            show ¬ (decide (0 ≤ j2) && decide (j2 ≤ e.top)) = true
            rw [decide_eq_false (show ¬ j2 ≤ e.top by omega), Bool.and_false]
            decide
          · refine iteD q2 (kn _ ?_ _ s2)
            simp only [hindV, hx]
            rw [if_pos]
            show (decide (0 ≤ j2) && decide (j2 ≤ e.top)) = true
            rw [decide_eq_true (show j2 ≤ e.top by omega), decide_eq_true h0]
            rfl
      | great n g way =>
        have i1 : atI (Ch.great n g way).toV 1 = some (.str n) := rfl
        have i0 : atI (Ch.great n g way).toV 0 = some (.str "greatest") := rfl
        have kn : ∀ wv, hindV cs (.great n g way) = wv → ∀ H', Same H1 H' → Q wv H' := fun wv e H' s' => by rw [← e]; exact k1 H' s'
        refine iteD (nes (show ("greatest" : Str) ≠ "add" by decide +kernel)) (nxt ⟨_, rfl, t, _, 1, _, rfl, rfl, ht1, i1, _, rfl, D, _, rfl, .inl (sqL_of hD), rfl, hfl, _, rfl, ?_⟩)
        show if (!inV (.str n) ((cs.map (·.name)).map V.str)) = true then _ else _
        rw [inV_names]
        cases hx : cs.find? (isN n) with
        | none => exact iteT (kn _ (by simp only [hindV, hx]) H1 (Same.refl _))
        | some e =>
          obtain ⟨j, hj, en, hb⟩ := find_at hx
          have hja : j < as.length := by rw [hc1.len]; exact (List.getElem?_eq_some_iff.mp hj).1
          have haj := List.getElem?_eq_getElem hja
          obtain ⟨e', he', hat⟩ := hc1.at_ haj
          obtain rfl : e = e' := Option.some.inj (hj.symm.trans he')
          have hix := lref_at haj
          refine iteF (nxt ⟨_, rfl, _, rfl, .inl ⟨rfl, _, sqL_of hD⟩, _, rfl, t, _, 1, _, rfl, rfl, ht1, i1, D, _, .str n, j, _, rfl, rfl, sqL_of hD, rfl, hfl, names_at hj, (by rw [en]; exact beq_self_eq_true _), names_before hb, l, _, _, _, rfl, rfl, sqL_of hl1, hix, ?_⟩)
          have hs := sqT_of (K := K) hat
          refine ⟨_, rfl, t, _, 0, _, rfl, rfl, ht1, i0, rfl, _, rfl, ?_⟩
          refine iteD (nes (show ("greatest" : Str) ≠ "rename" by decide +kernel)) (nxt ⟨_, rfl, t, _, 0, _, rfl, rfl, ht1, i0, rfl, _, rfl, ?_⟩)
          refine iteD (nes (show ("greatest" : Str) ≠ "drop" by decide +kernel)) (nxt ⟨_, rfl, t, _, 0, _, rfl, rfl, ht1, i0, (by show 2 ≤ sizeLine; decide), fun q nq => ⟨q, _, rfl, .inl (sqL_of upd_same), rfl, rfl, _, rfl, ?_⟩⟩)
          have s2 := same_new (o := .lst [V.str "default", .str "fill"]) nq
          have ht2 := same_tup s2 ht1
          have hs2 := same_tup s2 hs
          have i2 : atI (Ch.great n g way).toV 2 = some (.int g) := rfl
          have i3 : atI (Ch.great n g way).toV 3 = some (.str way) := rfl
          have hwy : isWy way = true := by
            have hf' : (isNm (.str n) && (isGr (.int g) && isWy way)) = true := hf
            rw [Bool.and_eq_true, Bool.and_eq_true] at hf'
            exact hf'.2.2
          have hdv : valOk e.dflt = true := by
            have q := (hok e (List.mem_of_getElem? hj)).df
            cases hd : e.dflt with
            | non => rfl
            | int _ => rfl
            | _ => rw [hd] at q; cases q
          have gw := great_word (g := g) en hwy hdv
          have kw : ∀ b : Prop, (way = "refuse" ∧ ∃ j, e.dflt = .int j ∧ g < j) → hindV cs (.great n g way) = .str "default" := fun _ z => by simp only [hindV, hx]; rw [if_pos (gw.mpr z)]
          have ko : ¬ (way = "refuse" ∧ ∃ j, e.dflt = .int j ∧ g < j) → hindV cs (.great n g way) = .non := fun z => by simp only [hindV, hx]; rw [if_neg (fun q => z (gw.mp q))]
          refine iteF (nxt ⟨_, rfl, t, _, 3, _, rfl, rfl, ht2, i3, rfl, _, rfl, ?_⟩)
          by_cases hr2 : way = "refuse"
          · refine iteDT (by rw [hr2]) ⟨_, rfl, as[j], _, 2, _, rfl, rfl, hs2, rfl, rfl, _, rfl, ?_⟩
            cases hd : e.dflt with
            | non => exact iteF (iteF (kn _ (ko (fun z => by obtain ⟨_, j', z, _⟩ := z; rw [hd] at z; cases z)) _ s2))
            | int j2 =>
              refine iteT ⟨_, rfl, as[j], _, 2, _, rfl, rfl, hs2, (show _ = some (V.int j2) by rw [← hd]; rfl), _, rfl, t, _, 2, _, rfl, rfl, ht2, i2, _, _, rfl, rfl, _, rfl, ?_⟩
              by_cases q2 : g < j2
              · exact iteDT q2 (kn _ (kw True ⟨hr2, j2, hd, q2⟩) _ s2)
              · exact iteD q2 (kn _ (ko (fun z => by obtain ⟨_, j', z, q'⟩ := z; rw [hd] at z; cases z; exact q2 q')) _ s2)
            | _ => rw [hd] at hdv; cases hdv
          · exact iteD (nes hr2) (iteF (kn _ (ko (fun z => hr2 z.1)) _ s2))
/-! _law_change: a drawn change fits -/
theorem npool {H : Hp} {p l : Addr} {o : HO} (h : H p = some o) (n : H l = none) : l ≠ p := fun e => by
  rw [e, h] at n
  cases n
def sp_law_change (K : PySem.W.Frag) : Sp := fun vs H Q _ => ∃ (p : Addr) (z0 z1 m : Int), vs = [.ref p, .int m] ∧ H p = some (.lst [.int z0, .int z1]) ∧ 1 ≤ m ∧ m ≤ 99 ∧
  ∀ (t : Addr) (c : Ch) (y0 y1 : Int) (H' : Hp), c.fits = true → But p H H' → H' p = some (.lst [.int y0, .int y1]) → ChAt K H' t c → Q (.ref t) H'
theorem nmk {n : Str} (h : n = "a" ∨ n = "b" ∨ n = "cc") : isNm (.str n) = true := by
  rcases h with rfl | rfl | rfl <;> decide +kernel
theorem mem3 {x : V} {a b c : V} (h : x ∈ [a, b, c]) : x = a ∨ x = b ∨ x = c := by
  simpa [List.mem_cons] using h
theorem ok_law_change (T : Tx K mg) : Callee P w K mg base CX0 4 "_law_change" ["_law_pool_here", "_law_most"] [] (sp_law_change K) := by
  have C1 := (ok_pick (P := P) (w := w) (base := base) T).up (show 2 ≤ 3 by decide)
  have C2 := ok_value (P := P) (w := w) (base := base) T
  have C3 := (ok_draw (P := P) (w := w) (base := base) T).up (show 1 ≤ 3 by decide)
  refine mkCallee (fd__law_change T) (mg__law_change T) sc__law_change (fun _ _ _ _ _ _ us hl => match us, hl with | [_, _], _ => rfl) (fun vs H Q E h => ?_) (fun cdv A outer s H vs Q E hr h => ?_)
  · obtain ⟨p, z0, z1, m, rfl, _⟩ := h
    rfl
  · obtain ⟨p, z0, z1, m, rfl, hp, h0, h1, k⟩ := h
    have nd := sc__law_change.nd
    refine ⟨_, pss_cons (ps_set (i := 2) nd rfl (Or.inl rfl) (pcall C1 hr (pa_cons (pv 0) (pa_cons (pe_lst (pa_cons pe_str (pa_cons pe_str (pa_cons pe_str (pa_cons pe_str (pa_cons pe_str (pa_cons pe_str (pa_cons pe_str (pa_cons pe_str (pa_cons pe_str pa_nil)))))))))) pa_nil))))
      (pss_cons (ps_set (i := 3) nd rfl (Or.inl rfl) (pcall C1 hr (pa_cons (pv 0) (pa_cons (pe_lst (pa_cons pe_str (pa_cons pe_str (pa_cons pe_str pa_nil)))) pa_nil))))
      (pss_cons (ps_if (pt_cmpR op_eq (pv 2) pe_str (nomark _)) (pss_one (ps_ret (pe_tup (pa_cons (pv 2) (pa_cons (pv 3) (pa_cons (pe_op op_add pe_int (pcall C3 hr (pa_cons (pv 0) (pa_cons (pv 1) pa_nil)))) (pa_cons (pcall C2 hr (pa_cons (pv 0) (pa_cons (pv 1) pa_nil))) pa_nil))))))) pss_nil)
      (pss_cons (ps_if (pt_cmpR op_eq (pv 2) pe_str (nomark _)) (pss_one (ps_ret (pe_tup (pa_cons (pv 2) (pa_cons (pv 3) pa_nil))))) pss_nil)
      (pss_cons (ps_if (pt_cmpR op_eq (pv 2) pe_str (nomark _)) (pss_one (ps_ret (pe_tup (pa_cons (pv 2) (pa_cons (pv 3) (pa_cons (pcall C1 hr (pa_cons (pv 0) (pa_cons (pe_lst (pa_cons pe_str (pa_cons pe_str (pa_cons pe_str pa_nil)))) pa_nil))) pa_nil)))))) pss_nil)
      (pss_cons (ps_if (pt_cmpR op_eq (pv 2) pe_str (nomark _)) (pss_one (ps_ret (pe_tup (pa_cons (pv 2) (pa_cons (pv 3) (pa_cons (pcall C2 hr (pa_cons (pv 0) (pa_cons (pv 1) pa_nil))) pa_nil)))))) pss_nil)
      (pss_cons (ps_if (pt_cmpR op_eq (pv 2) pe_str (nomark _)) (pss_one (ps_ret (pe_tup (pa_cons (pv 2) (pa_cons (pv 3) (pa_cons (pcall C3 hr (pa_cons (pv 0) (pa_cons (pe_op op_add (pv 1) pe_int) pa_nil))) pa_nil)))))) pss_nil)
      (pss_one (ps_ret (pe_tup (pa_cons (pv 2) (pa_cons (pv 3) (pa_cons (pe_op op_add pe_int (pcall C3 hr (pa_cons (pv 0) (pa_cons (pv 1) pa_nil)))) (pa_cons (pcall C1 hr (pa_cons (pv 0) (pa_cons (pe_lst (pa_cons pe_str (pa_cons pe_str (pa_cons pe_str pa_nil)))) pa_nil))) pa_nil))))))))))))), ?_⟩
    have vfit : ∀ v, isIn m v = true → isVal v = true := fun v hv => by
      cases v with
      | non => rfl
      | int i =>
        have hv' : (decide (0 ≤ i) && decide (i ≤ m)) = true := hv
        exact (Bool.and_eq_true_iff.mp hv').1
      | _ => cases hv
    -- the kind
    refine ⟨_, rfl, (by show 9 ≤ sizeLine; decide), fun l nl => ?_⟩
    refine ⟨p, l, z0, z1, _, rfl, same_new nl _ _ hp, upd_same, npool hp nl, (by show 0 < 9; decide), (by show 9 < 1000000; decide), fun x y0 y1 hx => ?_⟩
    have b1 : But p H (upd (upd H l (.lst [.str "add", .str "drop", .str "rename", .str "default", .str "greatest", .str "greatest", .str "greatest", .str "fill", .str "fill"])) p (.lst [.int y0, .int y1])) := (But.of (same_new nl)).trans But.mut
    have p1 : upd (upd H l (.lst [.str "add", .str "drop", .str "rename", .str "default", .str "greatest", .str "greatest", .str "greatest", .str "fill", .str "fill"])) p (.lst [.int y0, .int y1]) p = some (.lst [.int y0, .int y1]) := upd_same
    generalize upd (upd H l (.lst [.str "add", .str "drop", .str "rename", .str "default", .str "greatest", .str "greatest", .str "greatest", .str "fill", .str "fill"])) p (.lst [.int y0, .int y1]) = H1 at b1 p1
    have hx' : x = .str "add" ∨ x = .str "drop" ∨ x = .str "rename" ∨ x = .str "default" ∨ x = .str "greatest" ∨ x = .str "fill" := by
      simp only [List.mem_cons, List.not_mem_nil, or_false] at hx
      rcases hx with h | h | h | h | h | h | h | h | h <;> simp [h]
    -- the name
    refine ⟨_, rfl, (by show 3 ≤ sizeLine; decide), fun l2 nl2 => ?_⟩
    refine ⟨p, l2, y0, y1, _, rfl, same_new nl2 _ _ p1, upd_same, npool p1 nl2, (by show 0 < 3; decide), (by show 3 < 1000000; decide), fun xn w0 w1 hxn => ?_⟩
    have b2 : But p H (upd (upd H1 l2 (.lst [.str "a", .str "b", .str "cc"])) p (.lst [.int w0, .int w1])) := b1.trans ((But.of (same_new nl2)).trans But.mut)
    have p2 : upd (upd H1 l2 (.lst [.str "a", .str "b", .str "cc"])) p (.lst [.int w0, .int w1]) p = some (.lst [.int w0, .int w1]) := upd_same
    generalize upd (upd H1 l2 (.lst [.str "a", .str "b", .str "cc"])) p (.lst [.int w0, .int w1]) = H2 at b2 p2
    obtain ⟨n, rfl, hn⟩ : ∃ n : Str, xn = .str n ∧ isNm (.str n) = true := by
      rcases mem3 hxn with rfl | rfl | rfl
      · exact ⟨_, rfl, nmk (.inl rfl)⟩
      · exact ⟨_, rfl, nmk (.inr (.inl rfl))⟩
      · exact ⟨_, rfl, nmk (.inr (.inr rfl))⟩
    rcases hx' with rfl | rfl | rfl | rfl | rfl | rfl
    · -- add
      refine ⟨_, rfl, rfl, _, rfl, iteDT rfl ⟨_, rfl, _, rfl, _, rfl, _, rfl, p, w0, w1, m, rfl, p2, (by omega), (by omega), fun r u0 u1 r0 r1 => ⟨_, _, rfl, rfl, ?_⟩⟩⟩
      have p3 : upd H2 p (.lst [.int u0, .int u1]) p = some (.lst [.int u0, .int u1]) := upd_same
      refine ⟨_, rfl, _, rfl, p, u0, u1, m, rfl, p3, (by omega), (by omega), fun v q0 q1 H3 hv b3 p4 => ⟨(by show 4 ≤ sizeLine; decide), fun t nt => ?_⟩⟩
      refine k t (.add n (1 + r) v) q0 q1 _ ?_ (((b2.trans But.mut).trans b3).trans (But.of (same_new nt))) (same_new nt _ _ p4) (sqT_of upd_same)
      show (isNm (.str n) && ((decide (1 ≤ 1 + r) && decide (1 + r ≤ 99)) && isVal v)) = true
      rw [hn, vfit v hv, decide_eq_true (by omega), decide_eq_true (by omega)]
      rfl
    · -- drop
      refine ⟨_, rfl, rfl, _, rfl, iteD (nes (show ("drop" : Str) ≠ "add" by decide +kernel)) ⟨_, rfl, rfl, _, rfl, iteDT rfl ⟨_, rfl, _, rfl, (by show 2 ≤ sizeLine; decide), fun t nt => ?_⟩⟩⟩
      exact k t (.drop n) w0 w1 _ hn (b2.trans (But.of (same_new nt))) (same_new nt _ _ p2) (sqT_of upd_same)
    · -- rename
      refine ⟨_, rfl, rfl, _, rfl, iteD (nes (show ("rename" : Str) ≠ "add" by decide +kernel)) ⟨_, rfl, rfl, _, rfl, iteD (nes (show ("rename" : Str) ≠ "drop" by decide +kernel)) ⟨_, rfl, rfl, _, rfl, iteDT rfl ?_⟩⟩⟩
      refine ⟨_, rfl, _, rfl, _, rfl, (by show 3 ≤ sizeLine; decide), fun l3 nl3 => ?_⟩
      refine ⟨p, l3, w0, w1, _, rfl, same_new nl3 _ _ p2, upd_same, npool p2 nl3, (by show 0 < 3; decide), (by show 3 < 1000000; decide), fun xm u0 u1 hxm => ⟨(by show 3 ≤ sizeLine; decide), fun t nt => ?_⟩⟩
      obtain ⟨o, rfl, ho⟩ : ∃ o : Str, xm = .str o ∧ isNm (.str o) = true := by
        rcases mem3 hxm with rfl | rfl | rfl
        · exact ⟨_, rfl, nmk (.inl rfl)⟩
        · exact ⟨_, rfl, nmk (.inr (.inl rfl))⟩
        · exact ⟨_, rfl, nmk (.inr (.inr rfl))⟩
      refine k t (.rename n o) u0 u1 _ ?_ ((b2.trans ((But.of (same_new nl3)).trans But.mut)).trans (But.of (same_new nt))) (same_new nt _ _ upd_same) (sqT_of upd_same)
      show (isNm (.str n) && isNm (.str o)) = true
      rw [hn, ho]
      rfl
    · -- default
      refine ⟨_, rfl, rfl, _, rfl, iteD (nes (show ("default" : Str) ≠ "add" by decide +kernel)) ⟨_, rfl, rfl, _, rfl, iteD (nes (show ("default" : Str) ≠ "drop" by decide +kernel)) ⟨_, rfl, rfl, _, rfl, iteD (nes (show ("default" : Str) ≠ "rename" by decide +kernel)) ⟨_, rfl, rfl, _, rfl, iteDT rfl ?_⟩⟩⟩⟩
      refine ⟨_, rfl, _, rfl, _, rfl, _, rfl, p, w0, w1, m, rfl, p2, (by omega), (by omega), fun v q0 q1 H3 hv b3 p4 => ⟨(by show 3 ≤ sizeLine; decide), fun t nt => ?_⟩⟩
      refine k t (.dflt n v) q0 q1 _ ?_ ((b2.trans b3).trans (But.of (same_new nt))) (same_new nt _ _ p4) (sqT_of upd_same)
      show (isNm (.str n) && isVal v) = true
      rw [hn, vfit v hv]
      rfl
    · -- greatest
      refine ⟨_, rfl, rfl, _, rfl, iteD (nes (show ("greatest" : Str) ≠ "add" by decide +kernel)) ⟨_, rfl, rfl, _, rfl, iteD (nes (show ("greatest" : Str) ≠ "drop" by decide +kernel)) ⟨_, rfl, rfl, _, rfl, iteD (nes (show ("greatest" : Str) ≠ "rename" by decide +kernel)) ⟨_, rfl, rfl, _, rfl, iteD (nes (show ("greatest" : Str) ≠ "default" by decide +kernel)) ⟨_, rfl, rfl, _, rfl, iteD (nes (show ("greatest" : Str) ≠ "fill" by decide +kernel)) ?_⟩⟩⟩⟩⟩
      refine ⟨_, rfl, _, rfl, _, rfl, _, rfl, p, w0, w1, m, rfl, p2, (by omega), (by omega), fun r u0 u1 r0 r1 => ⟨_, _, rfl, rfl, ?_⟩⟩
      have p3 : upd H2 p (.lst [.int u0, .int u1]) p = some (.lst [.int u0, .int u1]) := upd_same
      refine ⟨_, rfl, (by show 3 ≤ sizeLine; decide), fun l3 nl3 => ?_⟩
      refine ⟨p, l3, u0, u1, _, rfl, same_new nl3 _ _ p3, upd_same, npool p3 nl3, (by show 0 < 3; decide), (by show 3 < 1000000; decide), fun x q0 q1 hw => ⟨(by show 4 ≤ sizeLine; decide), fun t nt => ?_⟩⟩
      have hx3 : ∃ z : Str, x = .str z ∧ isWy z = true := by
        rcases mem3 hw with rfl | rfl | rfl
        · exact ⟨_, rfl, by decide +kernel⟩
        · exact ⟨_, rfl, by decide +kernel⟩
        · exact ⟨_, rfl, by decide +kernel⟩
      obtain ⟨z, rfl, hz⟩ := hx3
      refine k t (.great n (1 + r) z) q0 q1 _ ?_ (((b2.trans But.mut).trans ((But.of (same_new nl3)).trans But.mut)).trans (But.of (same_new nt))) (same_new nt _ _ upd_same) (sqT_of upd_same)
      show (isNm (.str n) && ((decide (1 ≤ 1 + r) && decide (1 + r ≤ 99)) && isWy z)) = true
      rw [hn, hz, decide_eq_true (by omega), decide_eq_true (by omega)]
      rfl
    · -- fill
      refine ⟨_, rfl, rfl, _, rfl, iteD (nes (show ("fill" : Str) ≠ "add" by decide +kernel)) ⟨_, rfl, rfl, _, rfl, iteD (nes (show ("fill" : Str) ≠ "drop" by decide +kernel)) ⟨_, rfl, rfl, _, rfl, iteD (nes (show ("fill" : Str) ≠ "rename" by decide +kernel)) ⟨_, rfl, rfl, _, rfl, iteD (nes (show ("fill" : Str) ≠ "default" by decide +kernel)) ⟨_, rfl, rfl, _, rfl, iteDT rfl ?_⟩⟩⟩⟩⟩
      refine ⟨_, rfl, _, rfl, _, rfl, _, rfl, _, _, rfl, rfl, p, w0, w1, _, rfl, p2, (by omega), (by omega), fun r u0 u1 r0 r1 => ⟨(by show 3 ≤ sizeLine; decide), fun t nt => ?_⟩⟩
      refine k t (.fill n r) u0 u1 _ ?_ ((b2.trans But.mut).trans (But.of (same_new nt))) (same_new nt _ _ upd_same) (sqT_of upd_same)
      show (isNm (.str n) && decide (0 ≤ r)) = true
      rw [hn, decide_eq_true r0]
      rfl
/-! _law_cols -/
def sp_lcols (K : PySem.W.Frag) : Sp := fun vs H Q _ => ∃ (l : Addr) (as : List Addr) (cs : List Col), vs = [.ref l] ∧ H l = some (.lst (as.map V.ref)) ∧ LCols K H as cs ∧ as.length ≤ 1000 ∧ (∀ c ∈ cs, ColOk c) ∧
  ∀ (l' : Addr) (as' : List Addr) (H' : Hp), H l' = none → Same H H' → H' l' = some (.lst (as'.map V.ref)) → Cols K H' as' cs → Q (.ref l') H'
theorem ok_lcols (T : Tx K mg) : Callee P w K mg base CX0 6 "_law_cols" ["_law_cols_here"] [] (sp_lcols K) := by
  obtain ⟨fdI, GI, FI⟩ := ok_Col_init (P := P) (w := w) (base := base) T
  obtain ⟨_, _, kb⟩ := kbinds_Col T FI
  refine mkCallee (fd__law_cols T) (mg__law_cols T) sc__law_cols (fun _ _ _ _ _ _ us hl => match us, hl with | [_], _ => rfl) (fun vs H Q E h => ?_) (fun cdv A outer s H vs Q E hr h => ?_)
  · obtain ⟨l, as, cs, rfl, _⟩ := h
    rfl
  · obtain ⟨l, as, cs, rfl, hl, hc, hlen, hok, k⟩ := h
    have nd := sc__law_cols.nd
    refine ⟨_, pss_one (ps_ret (pe_lc (own := [("_law_col", 1)]) (g := gName 1) (tt := tYes) (te := tMakeK (He.ga K "Column") 3 (["number"] : List Str).length (sp_Col_init K) (fun vs zs => vs ++ zs) E0 (tCons (tOp (rIxT K) (tVar 1) (tC (.int 0))) (tCons (tOp (rIxT K) (tVar 1) (tC (.int 1))) (tCons (tOp (rIxT K) (tVar 1) (tC (.int 2))) tNil))) (tCons (tOp (rIxT K) (tVar 1) (tC (.int 3))) tNil)) rfl nd (pi_list (pv 0)) (blkOk_by (N := ["_law_cols_here", "_law_col"]) (sc := defScope s__law_cols) (by decide +kernel))
        (fun _ _ _ _ _ => pg_name (i := 1) nd rfl (Or.inl rfl)) (fun _ _ _ _ _ => pts_nil) (fun _ _ _ _ _ => pe_makeK (mk_Column T) GI hr (by rfl) (mg_Column T) kb pass0 (pa_cons (pe_ix ix_tup (pv 1) pe_int (fun _ _ => rfl)) (pa_cons (pe_ix ix_tup (pv 1) pe_int (fun _ _ => rfl)) (pa_cons (pe_ix ix_tup (pv 1) pe_int (fun _ _ => rfl)) pa_nil))) (pk_cons (pe_ix ix_tup (pv 1) pe_int (fun _ _ => rfl)) pk_nil)))), ?_⟩
    refine tlc_G (K := K) (xs := as.map V.ref) (fun i y H' => ∃ a c, y = .ref a ∧ cs[i]? = some c ∧ ColA K H' a c) (fun i y H1 H2 s2 ⟨a, c, h1, h2, h3⟩ => ⟨a, c, h1, h2, h3.keepNL s2⟩) (fun R h => ⟨_, rfl, h l H (Same.refl _) (sqL_of hl)⟩) (by rw [List.length_map]; omega) (fun _ => rfl) ?_ ?_
    · intro i x hx H1 s1 R hR
      rw [List.getElem?_map] at hx
      cases ha : as[i]? with
      | none =>
        rw [ha] at hx
        cases hx
      | some a =>
        rw [ha] at hx
        obtain rfl := Option.some.inj hx
        obtain ⟨c, hci, hat⟩ := hc.at_ ha
        have ok := hok c (List.mem_of_getElem? hci)
        have h1 := sqT_of (K := K) (hat.keep s1)
        refine ⟨_, rfl, a, _, 0, _, rfl, rfl, h1, rfl, _, rfl, a, _, 1, _, rfl, rfl, h1, rfl, _, rfl, a, _, 2, _, rfl, rfl, h1, rfl, _, rfl, a, _, 3, _, rfl, rfl, h1, rfl, rfl, rfl, fun x dx2 nx ndx ndc => ?_⟩
        refine ⟨x, dx2, c.name, c.top, c.num, c.dflt, rfl, upd_same, ok.nm, ok.gr, ok.df, ok.nu, fun H4 hc4 k4 => ⟨rfl, ?_⟩⟩
        exact hR _ _ (fun b o e => k4 b o (ne_of_none e nx) (by rw [upd_ne (ne_of_none e nx), upd_ne (ne_of_none e ndx)]; exact e)) ⟨x, c, rfl, hci, hc4⟩
    · intro D ys H' nD s' hD hlen' hy
      obtain ⟨as', rfl, hcs⟩ := Cols.of_vs (by rw [hlen', List.length_map, hc.len]) hy
      exact k D as' H' nD s' hD hcs
/-! _law_told of K03: the columns behind a change, or the word of CannotBe -/
def sp_toldW (K : PySem.W.Frag) : Sp := fun vs H Q _ => ∃ (l t : Addr) (as : List Addr) (cs : List Col) (ch : Ch) (num : Int), vs = [.ref l, .ref t, .int num] ∧ SqL K H l (as.map V.ref) ∧ Cols K H as cs ∧ ChAt K H t ch ∧ ch.fits = true ∧ Good cs num ∧
  (∀ (l' : Addr) (as' : List Addr) (H' : Hp), hindV cs ch = .non → Same H H' → H' l' = some (.lst (as'.map V.ref)) → Cols K H' as' (behind cs ch num) → Q (.ref l') H') ∧
  ∀ (H' : Hp), hindV cs ch ≠ .non → Same H H' → Q (hindV cs ch) H'
theorem ok_toldW (T : Tx K mg) : Callee P w K mg base CX0 10 "_law_told" ["_law_cols_here", "_law_change_here", "_law_seat"] [] (sp_toldW K) := by
  have C1 := ok_changed_columns (P := P) (w := w) (base := base) T
  obtain ⟨fd1, ds1, F1, b1, v1⟩ := C1.ex
  cases v1
  have ox := oexB_ok (ex_CannotBe_x T)
  refine mkCallee (fd__law_told T) (mg__law_told T) sc__law_told (fun _ _ _ _ _ _ us hl => match us, hl with | [_, _, _], _ => rfl) (fun vs H Q E h => ?_) (fun cdv A outer s H vs Q E hr h => ?_)
  · obtain ⟨l, t, as, cs, ch, num, rfl, _⟩ := h
    rfl
  · obtain ⟨l, t, as, cs, ch, num, rfl, hl, hc, ht, hf, g, kQ, kE⟩ := h
    have nd := sc__law_told.nd
    refine ⟨_, pss_one (ps_try_as (i := 3) (tb := fun W => tRet (tCallS (sp_changed_columns K) (WE W) (tCons (tVar 0) (tCons (tVar 1) (tCons (tVar 2) tNil))))) (ts := fun a cls d => tRet (tXf a cls d (He.ga K "CannotBe") "word" (tVar 3))) (Wout := fun _ _ _ _ => False) rfl rfl nd rfl rfl ⟨rfl, by decide, Or.inl (mg_CannotBe T)⟩ takes0
          (fun W pn xe tk _ => pss_one (ps_ret (by exact (pe_callS F1 hr rfl C1.g C1.kp b1 (fun σ => passAt tk σ) (by exact (pa_cons (pv 0) (pa_cons (pv 1) (pa_cons (pv 2) pa_nil))))))))
          (fun a oe cls d pn hz hf => pss_one (ps_ret (by exact (pe_xf ox.xf ox.no hz hf (pv 3)))))), ?_⟩
    refine ⟨_, rfl, _, rfl, _, rfl, l, t, as, cs, ch, num, rfl, hl, hc, ht, hf, g, fun l' as' H' hw nl s1 hl' hc' => kQ l' as' H' hw s1 hl' hc', fun d H' hw s1 hd => ?_⟩
    refine ⟨true, ox.me, fun _ a ha => ?_, fun q => by cases q⟩
    exact ⟨_, rfl, rfl, rfl, d, _, _, rfl, hd, by simp [List.lookup], kE H' hw s1⟩
/-! a law's columns as tuples stay -/
theorem LCols.keepNL {K : PySem.W.Frag} {H H' : Hp} (s : KeepNL H H') : ∀ {as : List Addr} {cs : List Col}, LCols K H as cs → LCols K H' as cs
  | _, _, .nil => .nil
  | _, _, .cons h t => .cons (h.keepNL s) (t.keepNL s)

/-! _law_draw_cols: one to six drawn columns -/
def sixN : List Str := ["a", "b", "cc", "d", "e", "f"]
theorem six_nm : ∀ n ∈ sixN, isNm (.str n) = true := by decide +kernel
theorem six_nodup (i : Nat) : (sixN.take i).Nodup := by
  have : sixN.Nodup := by decide +kernel
  exact this.sublist (List.take_sublist _ _)
def sp_draw_cols (K : PySem.W.Frag) : Sp := fun vs H Q _ => ∃ (p : Addr) (z0 z1 : Int), vs = [.ref p] ∧ H p = some (.lst [.int z0, .int z1]) ∧
  ∀ (l : Addr) (as : List Addr) (cs : List Col) (y0 y1 : Int) (H' : Hp), H l = none → But p H H' → H' p = some (.lst [.int y0, .int y1]) → H' l = some (.lst (as.map V.ref)) → LCols K H' as cs → Good cs 33 → Q (.ref l) H'
theorem ok_draw_cols (T : Tx K mg) : Callee P w K mg base CX0 4 "_law_draw_cols" ["_law_pool_here"] [] (sp_draw_cols K) := by
  have C2 := ok_value (P := P) (w := w) (base := base) T
  have C3 := (ok_draw (P := P) (w := w) (base := base) T).up (show 1 ≤ 3 by decide)
  refine mkCallee (fd__law_draw_cols T) (mg__law_draw_cols T) sc__law_draw_cols (fun _ _ _ _ _ _ us hl => match us, hl with | [_], _ => rfl) (fun vs H Q E h => ?_) (fun cdv A outer s H vs Q E hr h => ?_)
  · obtain ⟨p, z0, z1, rfl, _⟩ := h
    rfl
  · obtain ⟨p, z0, z1, rfl, hp, k⟩ := h
    have nd := sc__law_draw_cols.nd
    have hz : sizeLine = 16777216 := by decide
    refine ⟨_, (pss_cons (ps_set (i := 1) nd rfl (Or.inl rfl) (pe_lst pa_nil))
        (pss_cons (ps_for PassesOwn.never rfl (pi_list (pe_slice sl_list (pe_lst (pa_cons pe_str (pa_cons pe_str (pa_cons pe_str (pa_cons pe_str (pa_cons pe_str (pa_cons pe_str pa_nil))))))) po_none (po_some (pe_op op_add pe_int (pcall C3 hr (pa_cons (pv 0) (pa_cons pe_int pa_nil))))))) (pg_name (i := 2) nd rfl (Or.inl rfl)) (pss_cons (ps_set (i := 3) nd rfl (Or.inl rfl) (pe_op op_add pe_int (pcall C3 hr (pa_cons (pv 0) (pa_cons pe_int pa_nil)))))
        (pss_one (ps_expr (pe_bm PySem.F.plainAttrs_list PySem.F.slot_list_append PySem.F.type_list_append mt_append (pv 1) (pa_cons (pe_tup (pa_cons (pv 2) (pa_cons (pv 3) (pa_cons (pcall C2 hr (pa_cons (pv 0) (pa_cons (pv 3) pa_nil))) (pa_cons (pe_op op_sub pe_int (pe_callB call_len (by rfl) (fr_len T) PySem.boot_len (pa_cons (pv 1) pa_nil))) pa_nil))))) pa_nil))))))
        (pss_one (ps_ret (pv 1))))), ?_⟩
    refine q_asgX ⟨by decide, fun l nl => ?_⟩
    have b0 : But p H (upd H l (.lst [])) := But.of (same_new nl)
    have hp0 : upd H l (.lst []) p = some (.lst [.int z0, .int z1]) := same_new nl _ _ hp
    have hl0 : upd H l (.lst []) l = some (.lst []) := upd_same
    have npl : l ≠ p := fun e => by rw [e, hp] at nl; cases nl
    generalize upd H l (.lst []) = H1 at b0 hp0 hl0 ⊢
    refine ⟨by show 6 ≤ sizeLine; decide, fun q0 nq0 => ?_⟩
    have sq0 : Same H1 (upd H1 q0 (.lst (sixN.map V.str))) := same_new nq0
    have hq0 : upd H1 q0 (.lst (sixN.map V.str)) q0 = some (.lst (sixN.map V.str)) := upd_same
    have nq0p : q0 ≠ p := fun e => by rw [e, hp0] at nq0; cases nq0
    have nlq0 : l ≠ q0 := ne_of_none hl0 nq0
    refine ⟨_, rfl, p, z0, z1, 6, rfl, sq0 _ _ hp0, by decide, by decide, fun r u0 u1 r0 r1 => ⟨_, _, rfl, rfl, _, rfl, q0, sixN.map V.str, rfl, sqL_of ?_, fun q nq => ?_⟩⟩
    · rw [upd_ne nq0p]
      exact hq0
    obtain ⟨j, hj, hcut⟩ : ∃ j : Nat, (1 ≤ j ∧ j ≤ 6) ∧ cutV (sixN.map V.str) none (some (1 + r)) = (sixN.take j).map V.str := by
      have : r = 0 ∨ r = 1 ∨ r = 2 ∨ r = 3 ∨ r = 4 ∨ r = 5 := by omega
      rcases this with rfl | rfl | rfl | rfl | rfl | rfl
      · exact ⟨1, by decide, rfl⟩
      · exact ⟨2, by decide, rfl⟩
      · exact ⟨3, by decide, rfl⟩
      · exact ⟨4, by decide, rfl⟩
      · exact ⟨5, by decide, rfl⟩
      · exact ⟨6, by decide, rfl⟩
    rw [hcut]
    have s2 : Same (upd (upd H1 q0 (.lst (sixN.map V.str))) p (.lst [.int u0, .int u1])) (upd (upd (upd H1 q0 (.lst (sixN.map V.str))) p (.lst [.int u0, .int u1])) q (.lst ((sixN.take j).map V.str))) := same_new nq
    have b1 : But p H (upd (upd (upd H1 q0 (.lst (sixN.map V.str))) p (.lst [.int u0, .int u1])) q (.lst ((sixN.take j).map V.str))) := ((b0.trans (But.of sq0)).trans But.mut).trans (But.of s2)
    have hq1 : upd (upd (upd H1 q0 (.lst (sixN.map V.str))) p (.lst [.int u0, .int u1])) q (.lst ((sixN.take j).map V.str)) q = some (.lst ((sixN.take j).map V.str)) := upd_same
    have hp1 : upd (upd (upd H1 q0 (.lst (sixN.map V.str))) p (.lst [.int u0, .int u1])) q (.lst ((sixN.take j).map V.str)) p = some (.lst [.int u0, .int u1]) := s2 _ _ upd_same
    have hl1 : upd (upd (upd H1 q0 (.lst (sixN.map V.str))) p (.lst [.int u0, .int u1])) q (.lst ((sixN.take j).map V.str)) l = some (.lst []) := by
      refine s2 _ _ ?_
      rw [upd_ne npl]
      exact sq0 _ _ hl0
    have nqp : q ≠ p := npool0 upd_same nq
    have nlq : l ≠ q := by
      intro e
      rw [← e, upd_ne npl, upd_ne nlq0, hl0] at nq
      cases nq
    rw [show ([.str "a", .str "b", .str "cc", .str "d", .str "e", .str "f"] : List V) = sixN.map V.str from rfl]
    generalize upd (upd (upd H1 q0 (.lst (sixN.map V.str))) p (.lst [.int u0, .int u1])) q (.lst ((sixN.take j).map V.str)) = H2 at b1 hq1 hp1 hl1 ⊢
    clear hl0 hp0 b0 nq nlq0 nq0 s2 sq0 hq0
    have hjl : (sixN.take j).length = j := by rw [List.length_take]; have : sixN.length = 6 := rfl; omega
    refine ⟨q, rfl, ⟨_, sqL_of hq1⟩, ?_⟩
    refine for_list (xs := (sixN.take j).map V.str) (fun i σ H' => ∃ (as : List Addr) (cs : List Col) (y0 y1 : Int) (x3 x4 : Option V), σ = [some (.ref p), some (.ref l), x3, x4] ∧ But p H H' ∧ H' q = some (.lst ((sixN.take j).map V.str)) ∧ H' p = some (.lst [.int y0, .int y1]) ∧ H' l = some (.lst (as.map V.ref)) ∧
      LCols K H' as cs ∧ cs.map (·.name) = (sixN.take j).take i ∧ ∀ c ∈ cs, ColOk c ∧ c.num < 33) ⟨[], [], u0, u1, none, none, rfl, b1, hq1, hp1, hl1, .nil, rfl, (fun c hc => by cases hc)⟩ (fun i σ H' _ h => ?_) ?_ ?_
    · obtain ⟨as, cs, y0, y1, x3, x4, _, _, hq', _⟩ := h
      exact sqL_of hq'
    · rintro i x σ H' hx ⟨as, cs, y0, y1, x3, x4, rfl, b', hq', hp', hl', hc', hn', ok'⟩
      rw [List.getElem?_map] at hx
      cases hi : (sixN.take j)[i]? with
      | none =>
        rw [hi] at hx
        cases hx
      | some n =>
        rw [hi] at hx
        obtain rfl := Option.some.inj hx
        have hil := (List.getElem?_eq_some_iff.mp hi).1
        have hcl : cs.length = i := by
          have := congrArg List.length hn'
          rw [List.length_map, List.length_take] at this
          omega
        have hnm : isNm (.str n) = true := six_nm n (List.mem_of_mem_take (List.mem_of_getElem? hi))
        have hal := hc'.len
        refine q_asgX ⟨_, rfl, p, y0, y1, 3, rfl, hp', by omega, by omega, fun r u0 u1 r0 r1 => ⟨_, _, rfl, rfl, ?_⟩⟩
        have b2 : But p H (upd H' p (.lst [.int u0, .int u1])) := b'.trans But.mut
        have hq2 : upd H' p (.lst [.int u0, .int u1]) q = some (.lst ((sixN.take j).map V.str)) := by rw [upd_ne nqp]; exact hq'
        have hp2 : upd H' p (.lst [.int u0, .int u1]) p = some (.lst [.int u0, .int u1]) := upd_same
        have hl2 : upd H' p (.lst [.int u0, .int u1]) l = some (.lst (as.map V.ref)) := by rw [upd_ne npl]; exact hl'
        have hc2 := hc'.keepNL (KeepNL.ofBut hp' (But.mut (o := .lst [.int u0, .int u1])))
        generalize upd H' p (.lst [.int u0, .int u1]) = H3 at b2 hq2 hp2 hl2 hc2 ⊢
        refine ⟨_, rfl, .inl ⟨rfl, _, sqL_of hl2⟩, _, rfl, _, rfl, _, rfl, _, rfl, p, u0, u1, _, rfl, hp2, by omega, by omega, fun v w0 w1 H4 hv b4 hp4 => ?_⟩
        have hl4 := b4 _ _ npl hl2
        have hq4 := b4 _ _ nqp hq2
        have hc4 := hc2.keepNL (KeepNL.ofBut hp2 b4)
        refine ⟨_, rfl, _, as.length, rfl, .inl ⟨_, sqL_of hl4, by rw [List.length_map]⟩, _, _, rfl, rfl, by show 4 ≤ sizeLine; decide, fun t nt => ?_⟩
        have st : Same H4 (upd H4 t (.tup [.str n, .int (1 + r), v, .int (10 - (as.length : Nat))])) := same_new nt
        have ht : upd H4 t (.tup [.str n, .int (1 + r), v, .int (10 - (as.length : Nat))]) t = some (.tup [.str n, .int (1 + r), v, .int (10 - (as.length : Nat))]) := upd_same
        generalize upd H4 t (.tup [.str n, .int (1 + r), v, .int (10 - (as.length : Nat))]) = H5 at st ht ⊢
        have hl5 := st _ _ hl4
        refine ⟨l, _, _, rfl, rfl, hl5, ?_, as ++ [t], cs ++ [⟨n, 1 + r, v, 10 - (as.length : Nat)⟩], w0, w1, _, _, rfl, ?_, ?_, ?_, ?_, ?_, ?_, ?_⟩
        · rw [List.length_map, hal, hcl]
          omega
        · exact fun c o hc e => by
            rw [upd_ne (ne_of_none e nl)]
            exact st _ _ (b4 _ _ hc (b2 _ _ hc e))
        · rw [upd_ne nlq.symm]
          exact st _ _ hq4
        · rw [upd_ne npl.symm]
          exact st _ _ hp4
        · rw [upd_same, List.map_append]
          rfl
        · have k6 : KeepNL H5 (upd H5 l (.lst (as.map V.ref ++ [.ref t]))) := KeepNL.lst hl5
          refine ((hc4.keepNL (KeepNL.of st)).keepNL k6).app (.cons ?_ .nil)
          exact k6 _ _ (fun _ z => by cases z) ht
        · rw [List.map_append, hn', List.take_add_one, hi]
          rfl
        · intro c hc
          rcases List.mem_append.mp hc with hc | hc
          · exact ok' c hc
          · cases List.mem_singleton.mp hc
            refine ⟨⟨hnm, ?_, hv, ?_⟩, ?_⟩
            · show (decide (1 ≤ 1 + r) && decide (1 + r ≤ 99)) = true
              rw [decide_eq_true (by omega), decide_eq_true (by omega)]
              rfl
            · show (0 : Int) ≤ 10 - (as.length : Nat)
              omega
            · show (10 : Int) - (as.length : Nat) < 33
              omega
    · rintro σ H' ⟨as, cs, y0, y1, x3, x4, rfl, b', hq', hp', hl', hc', hn', ok'⟩
      rw [List.length_map, List.take_length] at hn'
      have hcl : cs.length = j := by rw [← hjl, ← hn', List.length_map]
      exact ⟨_, rfl, k l as cs y0 y1 H' nl b' hp' hl' hc' ⟨ok', by omega, by omega, by rw [hn']; exact six_nodup j, by decide⟩⟩
/-! a block, then the rest: what holds between them is named -/
theorem s_seq {t U : TS} {D : Ends} {σ : L2.St} {H : Hp} (P : L2.St → Hp → Prop) (k : ∀ σ' H', P σ' H' → U D σ' H') (h : (∀ σ' H', P σ' H' → U D σ' H') → tSeq t U D σ H) : tSeq t U D σ H := h k
theorem pl_rop {σ : L2.St} {H : Hp} {D : Ends} {ta tb : TE} {r : V → V → Hp → VK → Prop} (h : ta σ H fun x H1 => tb σ H1 fun y H2 => r x y H2 D.rt) : tRet (tOp r ta tb) D σ H := h

/-! xs != ys of lists whose items are equal one by one, own == among them -/
section
open PySem.SeqAt
open PySem.AutoSeq1 (wpAny_loadPart')
open PySem.MeetsSeq PySem.MeetsSeq2 PySem.MeetsSeq3 PySem.SeqRoads2
section
variable {prog : Program} {w : World} {A : Around} {R : Result → Shared → Prop}
theorem nw_loop (l b : Addr) (N : Nat) (J : Nat → Shared → Prop) (turns : GQ.ListI prog w A (fun e s' => R (.error e) s') l b N J) (last : ∀ s, J N s → R (.ok (.ret (.bool false))) s) :
    ∀ (m i : Nat), N - i = m → i ≤ N → ∀ s, J i s → wpAny (model prog w) A.in1 (Builtin.«list.__eq__.loop» ⟨[.ref l, .ref b, rawInt i, rawInt 3], []⟩) (GQ.FinOf prog w A R) (fun e s' => R (.error e) s') s
  | 0, i, hm, hi, s, hJ => by
    obtain ⟨us, vs, n, n2, hu, hv, zu, zv, _⟩ := turns i s hJ
    have ei : i = N := by omega
    have done := last s (ei ▸ hJ)
    obtain ⟨hp, g, d, tk, os⟩ := s
    wp_walk using wpAny_loadPart' hu, wpAny_loadPart' hv
    rw [show us[((i : Nat) : Int).toNat]? = none by simp; omega, show vs[((i : Nat) : Int).toNat]? = none by simp; omega]
    wp_walk using wpAny_loadPart' hu, wpAny_loadPart' hv
    show R (.ok (.ret (.bool (us.size != vs.size)))) _
    rw [zu, zv]
    simpa using done
  | m + 1, i, hm, hi, s, hJ => by
    obtain ⟨us, vs, n, n2, hu, hv, zu, zv, turn⟩ := turns i s hJ
    have lu : i < us.size := by omega
    have lv : i < vs.size := by omega
    have one := turn lu lv
    obtain ⟨hp, g, d, tk, os⟩ := s
    wp_walk using wpAny_loadPart' hu, wpAny_loadPart' hv
    rw [show us[((i : Nat) : Int).toNat]? = some us[i] by simp [lu], show vs[((i : Nat) : Int).toNat]? = some vs[i] by simp [lv]]
    refine wpAny_bind (wpAny_mono one (fun r s2 q => ?_) fun _ _ x => x)
    obtain ⟨er, hJ2⟩ := q
    subst er
    have rest := nw_loop l b N J turns last m (i + 1) (by omega) (by omega) s2 hJ2
    obtain ⟨hp2, g2, d2, tk2, os2⟩ := s2
    wp_walk
    rw [show ((i : Int) + 1) = ((i + 1 : Nat) : Int) by omega]
    exact ⟨plainId_quiet plain_eq_loop _, codeAny_builtin entry_eq_loop (by
      rw [Around.under_plainId plain_eq_loop _]
      exact rest)⟩
theorem nw_list (l b : Addr) (N : Nat) (J : Nat → Shared → Prop) (turns : GQ.ListI prog w A (fun e s' => R (.error e) s') l b N J) (last : ∀ s, J N s → R (.ok (.ret (.bool false))) s) {s : Shared} (hJ : J 0 s) :
    wpAny (model prog w) A.in1 (Builtin.«list.__ne__» ⟨[.ref l, .ref b], []⟩) (GQ.FinOf prog w A R) (fun e s' => R (.error e) s') s := by
  obtain ⟨us, vs, n, n2, hu, hv, zu, zv, _⟩ := turns 0 s hJ
  have rest := nw_loop (A := A) (R := R) l b N J turns last N 0 rfl (Nat.zero_le _) s hJ
  obtain ⟨hp, g, d, tk, os⟩ := s
  have both := AutoSeq1.sub_list_list
  have same : ¬ (us.size != vs.size) = true := by simp [zu, zv]
  wp_walk using wpAny_loadPart' hu, wpAny_loadPart' hv
  exact ⟨plainId_quiet plain_eq_loop _, codeAny_builtin entry_eq_loop (by
    rw [Around.under_plainId plain_eq_loop _]
    exact rest)⟩
end
theorem nw_rc {prog : Program} {w : World} {A : Around} {E : Value → Shared → Prop} {s : Shared} {l b : Addr} {N : Nat} {Q : Value → Shared → Prop} (hu : A.units < cLine) (J : Nat → Shared → Prop) (turns : GQ.ListI prog w A E l b N J) (last : ∀ s, J N s → Q (.bool false) s) (hJ : J 0 s) :
    wpAny (model prog w) A (richCompare .NotEq (.ref l) (.ref b)) Q E s := by
  obtain ⟨us, vs, n, n2, h1, h2, _⟩ := turns 0 s hJ
  refine wpAny_richCompare_same_room (op := .NotEq) ⟨_, h1, rfl⟩ ⟨_, h2, rfl⟩ F.slot_list_ne (GQ.call_here F.slot_list_ne ⟨_, h1, rfl⟩ F.entry_list_ne (F.args_list_ne_2 _ _) ?_) hu
  exact nw_list (R := wants (fun v s' => v ≠ .notImplemented ∧ Q v s') E) l b N J turns (fun s' q => ⟨(fun x => nomatch x), last s' q⟩) hJ
end
def rNeG (D : Eqv) : R2 := fun x y H Q => DList D x y H ∧ ∀ H', Ext H H' → Q (.bl false) H'
theorem op_neG {X : Cx} {n : Nat} {D : Eqv} (hD : Mon D) (h : EqG X n D) (hr : Room (n + 1) X.A) : OpR X (compareOp .NotEq) (rNeG D) := by
  intro pins s σ H x y v u Q I rx ry q
  obtain ⟨⟨a, b, xs, ys, rfl, rfl, ha, hb, p⟩, k⟩ := q
  cases rx
  cases ry
  have sb : Sub X (n + 1) X.A := ⟨hr, rfl⟩
  show wpAny (model X.prog X.w) X.A (richCompare .NotEq (.ref a) (.ref b)) (EP X pins σ Q) X.xe s
  refine nw_rc (N := xs.length) hr.units0 (fun _ s' => LoopI X pins σ H s') (fun i s' q => ?_) (fun s' q => ?_) ⟨H, I, Ext.rfl'⟩
  · obtain ⟨H1, I1, e1⟩ := id q
    obtain ⟨z, its, k1, r, e⟩ := I1.hok a _ (e1 _ _ ha)
    obtain ⟨z2, its2, k2, r2, e2⟩ := I1.hok b _ (e1 _ _ hb)
    exact ⟨its.toArray, its2.toArray, k1, k2, e, e2, by rw [List.size_toArray, ← r.length], by rw [List.size_toArray, ← r2.length, ← p.1], fun h1 h2 => turnG hD h sb p r r2 i h1 h2 s' q⟩
  · obtain ⟨H1, I1, e1⟩ := q
    exact ⟨.bl false, H1, I1, rfl, k H1 e1⟩

-- needs: Column.__eq__ +NELIST
/-! != of lists of Columns -/
def ColR (K : PySem.W.Frag) : Addr → Addr → Hp → Prop := fun a b H => ∃ c, ColA K H a c ∧ ColA K H b c ∧ isVal c.dflt = true
theorem colR_mon {K : PySem.W.Frag} (a b : Addr) (H H' : Hp) (e : Ext H H') (h : ColR K a b H) : ColR K a b H' := by
  obtain ⟨c, h1, h2, h3⟩ := h
  exact ⟨c, ColA.keep e h1, ColA.keep e h2, h3⟩
abbrev DCol (K : PySem.W.Frag) : Eqv := DIns (He.ga K "Column") (ColR K)
theorem eqG_col {X : Cx} {f : Addr} {fd : FuncData} {ps : List Str} (F : FnOk X.prog X.w X.K X.mg X.base CX0 1 f fd ps (sp_Col_eq X.K)) (hm : Meth X.K (He.ga X.K "Column") "__eq__" f) (hb : Binds X.K fd ps []) : EqG X 1 (DCol X.K) := by
  have F2 : FnOk X.prog X.w X.K X.mg X.base CX0 1 f fd ps (spEq (ColR X.K)) := F.imp fun vs H Q E h => by
    obtain ⟨a, b, rfl, ⟨c, h1, h2, h3⟩, k⟩ := h
    exact ⟨a, b, c, c, rfl, h1, h2, h3, h3, by rw [colEq_self]; exact k H (fun _ _ e => e)⟩
  refine (rcG_ins (E := E0) F2 hm.at_ hm.fn hb pass0).eqG fun x y H d => ?_
  obtain ⟨a, b, _, _, _, _, h1, h2, _⟩ := d
  exact ⟨a, b, h1, h2⟩
theorem op_neCols {X : Cx} {f : Addr} {fd : FuncData} {ps : List Str} (F : FnOk X.prog X.w X.K X.mg X.base CX0 1 f fd ps (sp_Col_eq X.K)) (hm : Meth X.K (He.ga X.K "Column") "__eq__" f) (hb : Binds X.K fd ps []) (hr : Room 2 X.A) : OpR X (compareOp .NotEq) (rNeG (DCol X.K)) :=
  op_neG (mon_ins colR_mon) (eqG_col F hm hb) hr
theorem prs_cols {K : PySem.W.Frag} {H : Hp} : ∀ {as bs : List Addr} {cs : List Col}, Cols K H as cs → Cols K H bs cs → (∀ c ∈ cs, isVal c.dflt = true) → Prs (DCol K) (as.map V.ref) (bs.map V.ref) H
  | _, _, _, .nil, .nil, _ => Prs.nil
  | _, _, _, .cons (a := a) (c := c) h1 t1, .cons (a := b) h2 t2, hv => by
    obtain ⟨dx, e1⟩ := id h1
    obtain ⟨dy, e2⟩ := id h2
    exact Prs.cons ⟨a, b, dx, dy, _, _, rfl, rfl, e1, e2, c, h1, h2, hv c List.mem_cons_self⟩ (prs_cols t1 t2 fun d hd => hv d (List.mem_cons_of_mem _ hd))
theorem ne_cols {K : PySem.W.Frag} {H : Hp} {l m : Addr} {as bs : List Addr} {cs : List Col} {Q : VK} (hl : H l = some (.lst (as.map V.ref))) (hm : H m = some (.lst (bs.map V.ref))) (h1 : Cols K H as cs) (h2 : Cols K H bs cs) (hv : ∀ c ∈ cs, isVal c.dflt = true) (k : ∀ H', Same H H' → Q (.bl false) H') :
    rNeG (DCol K) (.ref l) (.ref m) H Q := ⟨⟨l, m, _, _, rfl, rfl, hl, hm, prs_cols h1 h2 hv⟩, fun H' e => k H' e⟩

/-! tuple(list) with its object known; dict(tuple of pairs); a tuple turned about -/
section
variable {X : Cx}
/-- tuple(l): the new tuple's own object has no dict -/
theorem call_tupleF : CallR X (.type "tuple") (fun xs H Q => ∃ p ys, xs = [.ref p] ∧ SqL X.K H p ys ∧ ∀ l o, H l = none → o.dict = none → Q (.ref l) (upd H l (.frz o (.tup ys)))) := by
  intro pins s σ H xs us Q I r h
  obtain ⟨p, ys, ev, hq, q⟩ := h
  subst ev
  obtain ⟨u, eu, rx⟩ := vals1 r
  subst eu
  cases rx
  obtain ⟨is, ri, pl, hz⟩ := I.list hq
  have ln := ri.length
  refine call_tuple_list pl.isList (fun h1 kp => ?_) (by simp only [List.size_toArray]; omega)
  have I1 : Inv X pins σ H { s with heap := h1 } := I.kept (t' := s.toks) kp
  have I2 : Inv X pins σ (upd H h1.objs.size (.frz { cls := .type "tuple", data := .seq is.toArray } (.tup ys))) { s with heap := h1.push { cls := .type "tuple", data := .seq is.toArray } } :=
    I1.laid (t' := s.toks) (fun b o e => Heap.get?_push_of_some _ e) (Nat.le_refl _) (show ObjOk X.prog X.w _ _ _ (.frz _ (.tup ys)) from ⟨Heap.get?_push_size _ rfl, hz, is, ri, IsTup.new _ _⟩)
  exact ⟨.ref h1.objs.size, _, I2, rfl, q _ _ (I1.hok.fresh (Nat.le_refl _)) rfl⟩
theorem pairs_in {pins : List (Addr × Obj)} {σ : L2.St} {H : Hp} {s : Shared} (I : Inv X pins σ H s) : ∀ {ps : List Addr} {kvs : List (Key × V)}, Paired (fun p kv => SqT X.K H p [kV kv.1, kv.2]) ps kvs →
    ∃ (ws : List (Value × Value)) (prs : List (Key × Value)), KV kvs prs ∧ ws.length = ps.length ∧ prs.length = ps.length ∧ ∀ (j : Nat) (k v : Value), ws[j]? = some (k, v) → ∃ b kk, ps[j]? = some b ∧ IsTup s.heap b #[k, v] ∧ prs[j]? = some (kk, v) ∧ keyIs kk k = true
  | _, _, .nil => ⟨[], [], .nil, rfl, rfl, fun j k v e => by simp at e⟩
  | _, _, .cons (a := p) (b := kv) h t => by
    obtain ⟨ws, prs, r, l1, l2, hp⟩ := pairs_in I t
    obtain ⟨is, ri, ht, _⟩ := I.tuple h
    obtain ⟨u, y, ei, ru, ry⟩ := vals2 ri
    subst ei
    refine ⟨(u, y) :: ws, (kv.1, y) :: prs, .cons ⟨rfl, ry⟩ r, by rw [List.length_cons, List.length_cons, l1], by rw [List.length_cons, List.length_cons, l2], fun j k v e => ?_⟩
    cases j with
    | zero =>
      have e' : (u, y) = (k, v) := Option.some.inj e
      cases e'
      exact ⟨p, kv.1, rfl, ht, rfl, kV_is (P := X.prog) (w := X.w) ru⟩
    | succ j =>
      obtain ⟨b, kk, e1, e2, e3, e4⟩ := hp j k v (by simpa using e)
      exact ⟨b, kk, by simpa using e1, e2, by simpa using e3, e4⟩
/-- dict(t), t a tuple of pairs whose object is known -/
theorem call_dictF (hc : X.calm = true) : CallR X (.type "dict") (fun xs H Q => ∃ (a : Addr) (o : Obj) (ps : List Addr) (kvs : List (Key × V)), xs = [.ref a] ∧ H a = some (.frz o (.tup (ps.map V.ref))) ∧ o.dict = none ∧ Paired (fun p kv => SqT X.K H p [kV kv.1, kv.2]) ps kvs ∧
    ∀ p, H p = none → Q (.ref p) (upd H p (.dK (mergeK [] kvs)))) := by
  intro pins s σ H xs us Q I r q
  obtain ⟨a, o, ps, kvs, ev, ha, hn, hp, q⟩ := q
  subst ev
  obtain ⟨u, eu, rx⟩ := vals1 r
  subst eu
  cases rx
  obtain ⟨go, hz, is, ri, o2, g2, c2, n2, d2⟩ := I.hok a _ ha
  rw [go] at g2
  obtain rfl := Option.some.inj g2
  have ei := refs_at ri
  subst ei
  obtain ⟨ws, prs, rel, l1, l2, hw⟩ := pairs_in I hp
  rw [List.length_map] at hz
  have P := PySem.PairArg.tuple (prog := X.prog) (w := X.w) a (ps.map Value.ref).toArray (fun j => ps.getD j 0) ws
  have it : PySem.PairItems s.heap (ps.map Value.ref).toArray (fun j => ps.getD j 0) ws := ⟨by simp [l1], fun j k v e => by
    obtain ⟨b, kk, e1, e2, _⟩ := hw j k v e
    refine ⟨by simp [e1, List.getD_eq_getElem?_getD], ?_⟩
    show PySem.PairAt s.heap (ps.getD j 0) k v
    rw [List.getD_eq_getElem?_getD, e1]
    exact .inl e2⟩
  refine PySem.call_dict_pairs (knd := mixKind X.prog X.w) (kvs := prs) P (I.ok.hd hc) ⟨⟨_, n2, go, c2, hn, d2⟩, it⟩ ⟨by rw [l1, l2], fun j k v e => ?_⟩ (by rw [l1]; exact hz) fun h1 tk dd kp => ?_
  · obtain ⟨b, kk, _, _, e3, e4⟩ := hw j k v e
    exact ⟨kk, e3, e4⟩
  · have hm : (s.heap.objs.size == sysModules) = false := beq_eq_false_iff_ne.mpr (Nat.ne_of_gt I.big)
    have hl : (mergeK [] kvs).length ≤ sizeLine := by
      refine Nat.le_trans (length_mergeK kvs []) ?_
      rw [List.length_nil, Nat.zero_add, rel.length, l2]
      exact hz
    exact ⟨.ref s.heap.objs.size, upd H s.heap.objs.size (.dK (mergeK [] kvs)), I.laid (t' := tk) (fun b o e => kp b o (by simp) e) (Nat.le_refl _) (show ObjOk X.prog X.w _ _ _ (.dK (mergeK [] kvs)) from ⟨hl, hm, merged [] prs, KV.merge rel .nil, dd⟩), rfl, q _ (I.hok.fresh (Nat.le_refl _))⟩
end
section
variable {prog : Program} {w : World} {A : Around} {E : Value → Shared → Prop} {s : Shared}
theorem back_take (xs : List Value) : ∀ k : Nat, k ≤ xs.length → (List.range k).filterMap (fun (m : Nat) => xs[xs.length - 1 - m]?) = xs.reverse.take k
  | 0, _ => rfl
  | k + 1, h => by
    have e : xs.reverse[k]? = xs[xs.length - 1 - k]? := List.getElem?_reverse (by omega)
    rw [List.range_succ, List.filterMap_append, back_take xs k (by omega), List.take_add_one, e]
    have g : xs[xs.length - 1 - k]? = some (xs[xs.length - 1 - k]'(by omega)) := List.getElem?_eq_getElem (by omega)
    rw [List.filterMap_cons, List.filterMap_nil, g]
    rfl
theorem back_pick (xs : Array Value) : ((List.range xs.size).filterMap fun (m : Nat) => xs[((((xs.size : Nat) : Int) - 1) + (m : Int) * (-1)).toNat]?).toArray = xs.toList.reverse.toArray := by
  have f : (fun (m : Nat) => xs[((((xs.size : Nat) : Int) - 1) + (m : Int) * (-1)).toNat]?) = fun (m : Nat) => xs.toList[xs.toList.length - 1 - m]? := by
    funext m
    have : ((((xs.size : Nat) : Int) - 1) + (m : Int) * (-1)).toNat = xs.size - 1 - m := by omega
    rw [this, Array.length_toList, Array.getElem?_toList]
  have e : xs.size = xs.toList.length := Array.length_toList.symm
  rw [f]
  conv => lhs; rw [e]
  rw [back_take xs.toList _ (Nat.le_refl _), List.take_of_length_le (by rw [List.length_reverse]; exact Nat.le_refl _)]
theorem back_bounds (n : Nat) : Builtin.Slice.sliceAdjust none none (-1) (n : Int) = ((n : Int) - 1, -1) := by
  have h1 : ((-1 : Int) < 0) := by omega
  unfold PySem.Builtin.Slice.sliceAdjust
  simp only [h1, if_true]
theorem back_places (n : Nat) : Builtin.Slice.slicePlaces ((n : Int) - 1) (-1) (-1) = n := by
  unfold PySem.Builtin.Slice.slicePlaces
  have h1 : ¬ ((-1 : Int) > 0) := by omega
  simp only [h1, if_false, Int.neg_neg, Int.ediv_one]
  split <;> omega
theorem back_applied {sl : Addr} {vs : Value} {n : Nat} {Q : Int × Int × Nat → Shared → Prop} (hs : s.heap.IsSliceOf sl .none .none vs) (ps : IsPart vs (some (-1))) (h : Q ((n : Int) - 1, -1, n) s) : wpAny (model prog w) A (Builtin.Slice.sliceApplied (.ref sl) (pure (n : Int))) Q E s := by
  obtain ⟨os, gs, cs, ds⟩ := id hs
  unfold PySem.Builtin.Slice.sliceApplied PySem.Builtin.Slice.sliceFields
  refine wpAny_bind (wpAny_bind (wpAny_field gs ds (x := .none) rfl (wpAny_bind (wpAny_field gs ds (x := .none) rfl (wpAny_bind (wpAny_field gs ds (x := vs) rfl (wpAny_pure ?_)))))))
  refine wpAny_bind (HT.slicePart_ ps ?_)
  show wpAny _ _ (if ((-1 : Int) == 0) = true then _ else _) _ _ s
  rw [if_neg (by decide)]
  refine wpAny_bind (slicePart_none (wpAny_bind (slicePart_none (wpAny_bind (wpAny_pure ?_)))))
  show wpAny _ _ (match Builtin.Slice.sliceAdjust none none (-1) (n : Int) with | (lo, hi) => pure (lo, (-1 : Int), Builtin.Slice.slicePlaces lo hi (-1))) _ _ s
  rw [back_bounds n]
  show wpAny _ _ (pure ((n : Int) - 1, (-1 : Int), Builtin.Slice.slicePlaces ((n : Int) - 1) (-1) (-1))) _ _ s
  rw [back_places]
  exact wpAny_pure h
theorem back_item {t sl : Addr} {items : Array Value} {vs : Value} {Q : Value → Shared → Prop} (ht : IsTup s.heap t items) (hs : s.heap.IsSliceOf sl .none .none vs) (ps : IsPart vs (some (-1))) (hz : items.size ≤ sizeLine)
    (h : Q (.ref s.heap.objs.size) { s with heap := s.heap.push { cls := .type "tuple", data := .seq items.toList.reverse.toArray } }) : wpAny (model prog w) A (getItem (.ref t) (.ref sl)) Q E s := by
  have tk : sizeOk (.seq items.toList.reverse.toArray) := by
    show items.toList.reverse.toArray.size ≤ sizeLine
    rw [List.size_toArray, List.length_reverse, Array.length_toList]
    exact hz
  obtain ⟨os, gs, cs, ds⟩ := id hs
  have ty : s.TypeIs (.ref sl) "slice" := ⟨os, gs, cs⟩
  unfold getItem
  try with_reducible refine wpAny_holding ?_
  first | refine wpAny_bind (wpAny_pure ?_) | skip
  refine wpAny_bind (wpAny_sequenceKey ht.typeIs (by decide) ?_)
  refine wpAny_bind (wpAny_callSpecial?_slot (name := Str.ofString "__getitem__") ht.typeIs PyProof.Rows.slot_tuple_getitem (wpAny_call_entry PyProof.Rows.slot_tuple_getitem ht.typeIs entry_tuple_getitem ?_ (args_tuple_getitem _ _)))
  show wpAny _ _ (Builtin.Tuple.tupleItemsOf (.ref t) >>= _) _ _ s
  refine wpAny_bind (tupleItemsOf_ ht (wpAny_bind (wpAny_typeOf ty ?_)))
  rw [if_pos (by decide)]
  refine wpAny_bind (back_applied (n := items.size) hs ps ?_)
  have no : ¬ ((((items.size : Nat) : Int) - 1 == 0 && (-1 : Int) == 1 && items.size == items.size) = true) := by
    intro q
    rw [Bool.and_eq_true, Bool.and_eq_true] at q
    exact absurd (eq_of_beq q.1.2) (by decide)
  show wpAny _ _ (if (((items.size : Nat) : Int) - 1 == 0 && (-1 : Int) == 1 && items.size == items.size) = true then _ else _) _ _ s
  rw [if_neg no, back_pick]
  first
    | exact wpAny_bind (m := Builtin.Tuple.tupleExact _) (wpAny_newObj_type (wpAny_pure ⟨_, rfl, wpAny_pure h⟩) tk)
    | exact wpAny_bind (m := Builtin.Tuple.tupleExact _) (wpAny_newObj_type (wpAny_bind (wpAny_pure (wpAny_pure ⟨_, rfl, wpAny_pure h⟩))) tk)
    | exact wpAny_bind (wpAny_bind (m := Builtin.Tuple.tupleExact _) (wpAny_newObj_type (wpAny_pure (wpAny_pure ⟨_, rfl, wpAny_pure h⟩)) tk))
    | exact wpAny_bind (wpAny_bind (m := Builtin.Tuple.tupleExact _) (wpAny_newObj_type (wpAny_pure ⟨_, rfl, wpAny_pure h⟩) tk))
end
/-- t[::-1] -/
def tBackT (K : PySem.W.Frag) (te : TE) : TE := fun σ H Q => te σ H fun x H1 => ∃ a xs, x = .ref a ∧ SqT K H1 a xs ∧ ∀ p, H1 p = none → Q (.ref p) (upd H1 p (.tup xs.reverse))
theorem pe_backT {X : Cx} {e : Expr} {te : TE} {k : Nat} {p1 p2 p3 pos : Pos} (he : PE X e te) : PE X (.Subscript e (.Slice none none (some (.UnaryOp .USub (.Constant (.int 1) k p1) p2)) p3) pos) (tBackT X.K te) := by
  refine ⟨fun pins s σ H Q I h => Subscript_ (thn (he.run pins s σ H _ I h) fun v s1 ⟨x, H1, I1, r1, q1⟩ => ?_)⟩
  obtain ⟨a, xs, ev, hx, q⟩ := q1
  subst ev
  cases r1
  have sp : PO X (some (.UnaryOp .USub (.Constant (.int 1) k p1) p2)) (tPart (tUn (rU fun i => .int (-i)) (tC (.int 1)))) := po_some (pe_un un_neg pe_int)
  refine wpAny_Slice (thn (po_none.run pins s1 σ H1 (fun o H2 => o = none ∧ H2 = H1) I1 ⟨rfl, rfl⟩) fun vl s2 ⟨l, H2, I2, pl, el, e2⟩ => ?_)
  subst el e2
  refine thn (po_none.run pins s2 σ H2 (fun o H3 => o = none ∧ H3 = H2) I2 ⟨rfl, rfl⟩) fun vu s3 ⟨u, H3, I3, pu, eu, e3⟩ => ?_
  subst eu e3
  refine thn (sp.run pins s3 σ H3 (fun o H4 => o = some (-1) ∧ H4 = H3) I3 ⟨1, rfl, -1, rfl, rfl, rfl⟩) fun vs s4 ⟨o, H4, I4, ps, eo, e4⟩ => ?_
  subst eo e4
  cases pl
  cases pu
  have I5 : Inv X pins σ H4 { s4 with heap := s4.heap.push { cls := .type "slice", data := .fields #[.none, .none, vs] } } := I4.kept (t' := s4.toks) fun b ob q => Heap.get?_push_of_some _ q
  obtain ⟨is, r, ht, hz⟩ := I5.tuple hx
  have ln := r.length
  show wpAny (model X.prog X.w) X.A (subscriptTail e (.Slice none none (some (.UnaryOp .USub (.Constant (.int 1) k p1) p2)) p3) (.ref a) (.ref s4.heap.objs.size)) (EP X pins σ Q) X.xe { s4 with heap := s4.heap.push { cls := .type "slice", data := .fields #[.none, .none, vs] } }
  refine tail_any (ops := [.ref a, .ref s4.heap.objs.size]) ht.typeIs PyProof.Rows.slot_tuple_getitem.lookup ?_ (by with_unfolding_all rfl)
  refine back_item ht (Heap.IsSliceOf.new _ .none .none vs) ps (by rw [List.size_toArray]; omega) ?_
  refine ⟨.ref _, _, I5.laid (t' := s4.toks) (o := .tup xs.reverse) (fun b ob q => Heap.get?_push_of_some _ q) (Nat.le_refl _) ?_, rfl, q _ (I5.hok.fresh (Nat.le_refl _))⟩
  exact ⟨by rw [List.length_reverse]; exact hz, _, r.reverse, IsTup.new _ _⟩

/-! new objects in a list, by their addresses; the last of a list -/
theorem refs_of {R : Nat → Addr → Prop} : ∀ {ys : List V} (k : Nat), (∀ i y, ys[i]? = some y → ∃ t, y = .ref t ∧ R (k + i) t) → ∃ ts : List Addr, ys = ts.map V.ref ∧ ∀ i t, ts[i]? = some t → R (k + i) t
  | [], _, _ => ⟨[], rfl, fun i t h => by simp at h⟩
  | y :: ys, k, h => by
    obtain ⟨t, e, r⟩ := h 0 y rfl
    obtain ⟨ts, e2, r2⟩ := refs_of (ys := ys) (R := R) (k + 1) fun i z hz => by
      obtain ⟨t', q1, q2⟩ := h (i + 1) z (by simpa using hz)
      exact ⟨t', q1, by rw [show k + 1 + i = k + (i + 1) by omega]; exact q2⟩
    refine ⟨t :: ts, by rw [e, e2]; rfl, fun i u hu => ?_⟩
    match i, hu with
    | 0, hu =>
      obtain rfl := Option.some.inj hu
      exact r
    | i + 1, hu =>
      have := r2 i u (by simpa using hu)
      rw [show k + 1 + i = k + (i + 1) by omega] at this
      exact this
theorem refs_of0 {R : Nat → Addr → Prop} {ys : List V} (h : ∀ i y, ys[i]? = some y → ∃ t, y = .ref t ∧ R i t) : ∃ ts : List Addr, ys = ts.map V.ref ∧ ∀ i t, ts[i]? = some t → R i t := by
  obtain ⟨ts, e, r⟩ := refs_of (R := R) (ys := ys) 0 fun i y hy => by rw [Nat.zero_add]; exact h i y hy
  exact ⟨ts, e, fun i t ht => by have := r i t ht; rwa [Nat.zero_add] at this⟩
theorem lref_last {as : List Addr} {n : Nat} {a : Addr} (hl : as.length = n + 1) (h : as[n]? = some a) : atI (as.map V.ref) (-1) = some (.ref a) := by
  unfold atI ixN
  rw [if_neg (by omega), if_pos (by rw [List.length_map]; omega), List.length_map, show ((-1 : Int) + (as.length : Nat)).toNat = n by omega]
  show (as.map V.ref)[n]? = _
  rw [List.getElem?_map, h]
  rfl
theorem q_asg1 {te : TE} {i : Nat} {D : Ends} {σ : L2.St} {H : Hp} (h : te σ H fun x H1 => D.nx (σ.set i (some x)) H1) : tAsg te (gName i) D σ H := h

def sp_law (K : PySem.W.Frag) : Sp := fun vs H Q _ => ∃ (a : Addr) (ns : List Int), vs = [.ref a] ∧ SqL K H a (ns.map V.int) ∧ ns.length ≤ 63 ∧ (∀ z ∈ ns, Builtin.Int.intBits z ≤ 1048576) ∧ ∀ H', Q (.bl true) H'
abbrev NL : List Str := ["_law_script", "_law_k", "_law_pool_here", "_law_cols_here", "_law_turn", "_law_change_here", "_law_due", "_law_made", "_law_later"]
/-- a change of another column -/
def Ch.named (c : Ch) (n : Str) : Ch := match c with
  | .add _ g d => .add n g d
  | .drop _ => .drop n
  | .rename _ m => .rename n m
  | .dflt _ v => .dflt n v
  | .great _ g way => .great n g way
  | .fill _ i => .fill n i
theorem named_toV (c : Ch) (n : Str) : (c.named n).toV = [.str c.kind] ++ [.str n] ++ c.toV.drop 2 := by cases c <;> rfl
theorem named_fits {c : Ch} {n : Str} (h : c.fits = true) (hn : isNm (.str n) = true) : (c.named n).fits = true := by
  cases c with
  | drop m => exact hn
  | _ =>
    have q := (Bool.and_eq_true_iff.mp h).2
    exact Bool.and_eq_true_iff.mpr ⟨hn, q⟩
theorem addHind_or {cs : List Col} {n : Str} {g : Int} {d : V} : addHind cs n g d = .non ∨ ∃ z, addHind cs n g d = .str z := by
  unfold addHind
  repeat' split
  all_goals first | exact .inl rfl | exact .inr ⟨_, rfl⟩
theorem hind_or {cs : List Col} {ch : Ch} : hindV cs ch = .non ∨ ∃ z, hindV cs ch = .str z := by
  unfold hindV
  split
  · exact addHind_or
  all_goals (repeat' split)
  all_goals first | exact .inl rfl | exact .inr ⟨_, rfl⟩
theorem hind_scal {cs : List Col} {ch : Ch} : scal (hindV cs ch) (hindV cs ch) = true := by
  rcases hind_or (cs := cs) (ch := ch) with h | ⟨z, h⟩ <;> rw [h] <;> rfl
theorem cut_head (c : Ch) : cutV c.toV none (some 1) = [.str c.kind] := by cases c <;> rfl
theorem cut_rest (c : Ch) : cutV c.toV (some 2) none = c.toV.drop 2 := by cases c <;> rfl
theorem head_part (c : Ch) : ¬ (HT.sIx c.toV.length 0 none = 0 ∧ HT.sIx c.toV.length c.toV.length (some 1) = c.toV.length) := fun h => by
  have l := Ch.len c
  have e := HT.sIx_nat c.toV.length c.toV.length 1
  have e2 : ((1 : Nat) : Int) = 1 := rfl
  rw [e2] at e
  have h2 := h.2
  rw [e] at h2
  omega
theorem rest_part (c : Ch) : ¬ (HT.sIx c.toV.length 0 (some 2) = 0 ∧ HT.sIx c.toV.length c.toV.length none = c.toV.length) := fun h => by
  have e := h.1
  rw [six2 (Ch.len c)] at e
  cases e
theorem ok_law (T : Tx K mg) {fd : FuncData} (F : FunD K "law" "law" (defArgs s_law) (defBody s_law) (defScope s_law) (d_law.dvs K) (d_law.kws K) (He.ga K "law") fd) : FnOk P w K mg base CX0 11 (He.ga K "law") fd ["_law_script"] (sp_law K) := by
  have Cpool := (ok_pool (P := P) (w := w) (base := base) T).up (show 1 ≤ 10 by decide)
  have Cdc := (ok_draw_cols (P := P) (w := w) (base := base) T).up (show 4 ≤ 10 by decide)
  have Cch := ok_law_change (P := P) (w := w) (base := base) T
  have Cch := Cch.up (show _ ≤ 10 by decide)
  have Cd := (ok_draw (P := P) (w := w) (base := base) T).up (show 1 ≤ 10 by decide)
  have Cp := (ok_pick (P := P) (w := w) (base := base) T).up (show 2 ≤ 10 by decide)
  have Cw := (ok_word (P := P) (w := w) (base := base) T).up (show 1 ≤ 10 by decide)
  have Ccs := (ok_lcols (P := P) (w := w) (base := base) T).up (show 6 ≤ 10 by decide)
  have Cth := (ok_then (P := P) (w := w) (base := base) T).up (show 3 ≤ 10 by decide)
  have Cy := (ok_why_not (P := P) (w := w) (base := base) T).up (show 6 ≤ 10 by decide)
  have Ck := (ok_kind_of (P := P) (w := w) (base := base) T).up (show 1 ≤ 10 by decide)
  have Ct := ok_toldW (P := P) (w := w) (base := base) T
  obtain ⟨fdQ, FQ, bQ⟩ := ok_Col_eq (P := P) (w := w) (base := base) T
  have gr : mg "range" = none := fr_range T
  have gl : mg "len" = none := fr_len T
  refine F.ok (CX := CX0) (N := NL) sc_law (fun vs H Q E h => ?_) (fun cdv A outer s H vs Q E hr h => ?_)
  · obtain ⟨a, ns, rfl, _⟩ := h
    rfl
  suffices hh : ∃ t, PSs (cxOf CX0 P w K mg base NL "law" (defScope s_law) (He.ga K "law") cdv A outer s H E).nox (defBody s_law) t ∧ t { nx := fun _ H' => Q .non H', rt := Q } (start NL vs) H by
    obtain ⟨t, h1, h2⟩ := hh
    exact ⟨t, h1.nox, h2⟩
  obtain ⟨a, ns, rfl, hs, hlen, _, kk⟩ := h
  have nd := sc_law.nd
  have hu := hu_of hr
  have hr2 : Room 2 _ := hr.mono (by decide)
  have hz : sizeLine = 16777216 := by decide
  refine ⟨_, (pss_cons (ps_for PassesOwn.never rfl (pi_range1 (by rfl) gr (pa_cons (pe_callB (call_max2 rfl) (by rfl) (fr_max T) (by decide +kernel) (pa_cons pe_int (pa_cons (pe_callB (call_min2 rfl) (by rfl) (fr_min T) (by decide +kernel) (pa_cons (pe_callB call_len (by rfl) gl PySem.boot_len (pa_cons (pv 0) pa_nil)) (pa_cons pe_int pa_nil))) pa_nil))) pa_nil)) (pg_name (i := 1) nd rfl (Or.inl rfl)) (pss_cons (ps_set (i := 2) nd rfl (Or.inl rfl) (pcall Cpool hr (pa_cons (pv 0) (pa_cons (pv 1) pa_nil))))
        (pss_cons (ps_set (i := 3) nd rfl (Or.inl rfl) (pcall Cdc hr (pa_cons (pv 2) pa_nil)))
        (pss_one (ps_for PassesOwn.never rfl (pi_range1 (by rfl) gr (pa_cons pe_int pa_nil)) (pg_name (i := 4) nd rfl (Or.inl rfl)) (pss_cons (ps_set (i := 5) nd rfl (Or.inl rfl) (pcall Cch hr (pa_cons (pv 2) (pa_cons pe_int pa_nil))))
        (pss_cons (ps_if (pt_cmpR op_eq (pcall Cd hr (pa_cons (pv 2) (pa_cons pe_int pa_nil))) pe_int (nomark _)) (pss_one (ps_set (i := 5) nd rfl (Or.inl rfl) (pe_op op_catT (pe_op op_catT (pe_slice sl_tup (pv 5) po_none (po_some pe_int)) (pe_tup (pa_cons (pcall Cp hr (pa_cons (pv 2) (pa_cons (pe_lst (pa_cons pe_str (pa_cons pe_str pa_nil))) pa_nil))) pa_nil))) (pe_slice sl_tup (pv 5) (po_some pe_int) po_none)))) pss_nil)
        (pss_cons (ps_par (i := 6) (j := 7) rfl nd rfl rfl (by decide) rfl rfl (pa_cons (pcall Cw hr (pa_cons (pv 3) (pa_cons (pv 5) pa_nil))) (pa_cons (pcall Ccs hr (pa_cons (pv 3) pa_nil)) pa_nil)) (by rfl))
        (pss_cons (ps_if (PW.pt (pw_or (pt_cmpR op_ne (pcall Cy hr (pa_cons (pv 7) (pa_cons (pv 5) pa_nil))) (pv 6) (nomark _)) (pw_or (pt_cmpR op_ne (pcall Cy hr (pa_cons (pe_callTy call_tupleF (by rfl) (fr_tuple T) (by decide +kernel) (pa_cons (pv 7) pa_nil)) (pa_cons (pv 5) pa_nil))) (pv 6) (nomark _)) (pw_or1 (pt_cmpR op_ne (pcall Ck hr (pa_cons (pv 5) pa_nil)) (pe_ix ix_tup (pv 5) pe_int (fun _ _ => rfl)) (nomark _)))))) (pss_one (ps_ret pe_bl)) pss_nil)
        (pss_cons (ps_set (i := 8) nd rfl (Or.inl rfl) (pe_ifExp (pt_cmpR op_notN (pv 6) pe_non (nomark _)) (pv 6) (pcall Ccs hr (pa_cons (pcall Cth hr (pa_cons (pv 3) (pa_cons (pv 5) (pa_cons pe_int pa_nil)))) pa_nil))))
        (pss_one (ps_if (PW.pt (pw_or (pt_cmpR (OpR.or op_ne (op_neCols FQ (me_Column___eq__ T) bQ hr2)) (pcall Ct hr (pa_cons (pv 7) (pa_cons (pv 5) (pa_cons pe_int pa_nil)))) (pv 8) (nomark _)) (pw_or1 (pt_cmpR (op_neCols FQ (me_Column___eq__ T) bQ hr2) (pv 7) (pcall Ccs hr (pa_cons (pv 3) pa_nil)) (nomark _))))) (pss_one (ps_ret pe_bl)) pss_nil))))))))))))
        (pss_one (ps_ret pe_bl))), ?_⟩
  refine ⟨_, rfl, _, (ns.map V.int).length, rfl, .inl ⟨_, hs, rfl⟩, _, _, rfl, _, _, rfl, _, rfl, ?_, ?_, ?_⟩
  · split <;> (try split) <;> omega
  · split <;> (try split) <;> omega
  generalize hN : (if (if (2 : Int) < (((ns.map V.int).length : Nat) : Int) then (2 : Int) else (((ns.map V.int).length : Nat) : Int)) > 1 then (if (2 : Int) < (((ns.map V.int).length : Nat) : Int) then (2 : Int) else (((ns.map V.int).length : Nat) : Int)) else 1) = nT
  have hT2 : nT ≤ 2 := by
    rw [← hN]
    split <;> (try split) <;> omega
  refine for_range (lo := 0) (n := nT.toNat) (fun i σ H' => Same H H' ∧ ∃ y1 y2 y3 y4 y5 y6 y7 y8 : Option V, σ = [some (.ref a), y1, y2, y3, y4, y5, y6, y7, y8]) ⟨Same.refl _, _, _, _, _, _, _, _, _, rfl⟩ ?_ ?_
  case refine_2 =>
    rintro σ H' ⟨_, y1, y2, y3, y4, y5, y6, y7, y8, rfl⟩
    exact kk H'
  rintro i σ H0 hi ⟨sH, y1, y2, y3, y4, y5, y6, y7, y8, rfl⟩
  have hk0 : 0 ≤ (0 : Int) + (i : Int) := by omega
  have hk1 : (0 : Int) + (i : Int) ≤ 1000 := by omega
  generalize hkk : (0 : Int) + (i : Int) = kI at hk0 hk1
  refine q_asgX ⟨_, rfl, _, rfl, a, ns, kI, rfl, sH.seq hs, hk0, hk1, fun p H1 z0 z1 np s1 hp1 => ?_⟩
  have s01 := sH.trans s1
  have np0 : H p = none := sH.free np
  dsimp only
  refine q_asgX ⟨_, rfl, p, z0, z1, rfl, hp1, fun l as cs u0 u1 H2 nl2 b2 hp2 hl2 hc2 g => ?_⟩
  have g6 := g.six
  have hal := hc2.len
  have okc : ∀ c ∈ cs, ColOk c := fun c hc => (g.ok c hc).1
  have hvd : ∀ c ∈ cs, isVal c.dflt = true := fun c hc => in_val (okc c hc).df
  have hvo : ∀ c ∈ cs, valOk c.dflt = true := fun c hc => in_valOk (okc c hc).df
  have npl : l ≠ p := fun z => by rw [z, hp1] at nl2; cases nl2
  dsimp only
  refine ⟨30, rfl, by decide, by decide, ?_⟩
  refine for_range (lo := 0) (n := (30 : Int).toNat) (fun i σ H' => ∃ (v0 v1 : Int) (y4 y5 y6 y7 y8 : Option V), σ = [some (.ref a), some (.int kI), some (.ref p), some (.ref l), y4, y5, y6, y7, y8] ∧ But p H2 H' ∧ H' p = some (.lst [.int v0, .int v1])) ⟨u0, u1, _, _, _, _, _, rfl, But.refl _ _, hp2⟩ ?_ ?_
  case refine_2 =>
    rintro σ H' ⟨v0, v1, y4, y5, y6, y7, y8, rfl, b, hp⟩
    exact ⟨But.same (b2.trans b) s01 np0, _, _, _, _, _, _, _, _, rfl⟩
  rintro tn σ H3 htn ⟨v0, v1, y4, y5, y6, y7, y8, rfl, b3, hp3⟩
  generalize hte : (0 : Int) + (tn : Int) = tI
  refine q_asgX ⟨_, rfl, p, v0, v1, 4, rfl, hp3, by decide, by decide, fun t0 c0 w0 w1 H4 f0 b4 hp4 ht0 => ?_⟩
  have b24 := b3.trans b4
  dsimp only
  refine s_seq (fun σ' H' => ∃ (t : Addr) (c : Ch) (q0 q1 : Int), σ' = [some (.ref a), some (.int kI), some (.ref p), some (.ref l), some (.int tI), some (.ref t), y6, y7, y8] ∧ But p H2 H' ∧ H' p = some (.lst [.int q0, .int q1]) ∧ ChAt K H' t c ∧ c.fits = true) ?_ fun kq => ?_
  · rintro σ' H5 ⟨t, c, q0, q1, rfl, b5, hp5, ht, hf⟩
    have hl5 := b5 _ _ npl hl2
    have hc5 := hc2.keepNL (KeepNL.ofBut hp2 b5)
    refine ⟨_, rfl, _, rfl, l, t, as, cs, c, rfl, hl5, hc5, ht, by omega, hf, okc, fun H6 s6 => ?_⟩
    refine ⟨_, rfl, l, as, cs, rfl, s6 _ _ hl5, hc5.keep s6, by omega, okc, fun lm am H7 nlm s7 hlm hcm => ⟨_, _, rfl, ?_⟩⟩
    have s57 := s6.trans s7
    have ht7 := ht.keep s57
    dsimp only
    refine ⟨_, rfl, _, rfl, lm, t, am, cs, c, rfl, .inl (sqL_of hlm), hcm, hvo, ht7, hf, fun H8 s8 => ⟨_, rfl, hind_scal, _, rfl, iteNS rfl ?_⟩⟩
    refine ⟨_, rfl, lm, _, rfl, sqL_of (s8 _ _ hlm), fun lt o nlt hod => ?_⟩
    have s9 : Same H8 (upd H8 lt (.frz o (.tup (am.map V.ref)))) := same_new nlt
    have hlt : upd H8 lt (.frz o (.tup (am.map V.ref))) lt = some (.frz o (.tup (am.map V.ref))) := upd_same
    generalize upd H8 lt (.frz o (.tup (am.map V.ref))) = H9 at s9 hlt ⊢
    have s79 := s8.trans s9
    refine ⟨_, rfl, lt, t, am, cs, c, rfl, .inr (.inl (.inr ⟨o, hlt⟩)), hcm.keep s79, hvo, ht7.keep s79, hf, fun HA sA => ⟨_, rfl, hind_scal, _, rfl, iteNS rfl ?_⟩⟩
    have s7A := s79.trans sA
    have htA := ht7.keep s7A
    refine ⟨_, rfl, t, c, rfl, htA, _, rfl, t, _, 0, _, rfl, rfl, htA, Ch.at0 c, rfl, _, rfl, iteNS rfl (nxt ?_)⟩
    have hlmA := s7A _ _ hlm
    have hcmA := hcm.keep s7A
    have hl5A := (s57.trans s7A) _ _ hl5
    have hc5A := hc5.keep (s57.trans s7A)
    have fin : ∀ HZ, Same HA HZ → But p H2 HZ ∧ HZ p = some (.lst [.int q0, .int q1]) := fun HZ sZ => ⟨b5.trans (But.of ((s57.trans s7A).trans sZ)), ((s57.trans s7A).trans sZ) _ _ hp5⟩
    dsimp only
    by_cases hw : hindV cs c = .non
    · have gb := g.step hf hw
      refine q_asgX ⟨_, rfl, rfl, _, rfl, ?_⟩
      rw [hw]
      refine iteNS rfl ?_
      refine ⟨_, rfl, _, rfl, l, t, as, cs, c, 33, rfl, hl5A, hc5A, htA, by omega, hf, hvo, fun d hd => (gb.ok d hd).1.df, fun l2 as2 HB nl2' sB hlB hcB => ?_⟩
      have h6b := gb.six
      refine ⟨l2, as2, _, rfl, hlB, hcB, by rw [hcB.len]; omega, fun d hd => (gb.ok d hd).1, fun l3 as3 HC nl3 sC hlC hcC => ?_⟩
      have sAC := sB.trans sC
      dsimp only
      refine ⟨_, rfl, _, rfl, lm, t, am, cs, c, 33, rfl, sqL_of (sAC _ _ hlmA), hcmA.keep sAC, htA.keep sAC, hf, g, fun l4 as4 HD _ sD hlD hcD => ?_, fun HD hne _ => absurd hw hne⟩
      refine ⟨_, rfl, .inr (ne_cols hlD (sD _ _ hlC) hcD (hcC.keep sD) (fun d hd => in_val (gb.ok d hd).1.df) fun HE sE => ⟨_, rfl, iteF ?_⟩)⟩
      have sAE := (sAC.trans sD).trans sE
      refine ⟨_, rfl, _, rfl, l, as, cs, rfl, sAE _ _ hl5A, hc5A.keep sAE, by omega, okc, fun l5 as5 HF nl5 sF hlF hcF => ?_⟩
      have sAF := sAE.trans sF
      refine ne_cols (sAF _ _ hlmA) hlF (hcmA.keep sAF) hcF hvd fun HG sG => ⟨_, rfl, iteF (nxt ?_)⟩
      obtain ⟨f1, f2⟩ := fin HG (sAF.trans sG)
      exact ⟨_, _, _, _, _, _, _, rfl, f1, f2⟩
    · refine q_asgX ⟨_, rfl, rfl, _, rfl, iteNF hw ⟨_, rfl, ?_⟩⟩
      dsimp only
      refine ⟨_, rfl, _, rfl, lm, t, am, cs, c, 33, rfl, sqL_of hlmA, hcmA, htA, hf, g, fun _ _ _ hn _ _ _ => absurd hn hw, fun HD _ sD => ?_⟩
      refine ⟨_, rfl, .inl ⟨hind_scal, _, rfl, iteNS rfl ?_⟩⟩
      refine ⟨_, rfl, _, rfl, l, as, cs, rfl, sD _ _ hl5A, hc5A.keep sD, by omega, okc, fun l5 as5 HF nl5 sF hlF hcF => ?_⟩
      have sAF := sD.trans sF
      refine ne_cols (sAF _ _ hlmA) hlF (hcmA.keep sAF) hcF hvd fun HG sG => ⟨_, rfl, iteF (nxt ?_)⟩
      obtain ⟨f1, f2⟩ := fin HG (sAF.trans sG)
      exact ⟨_, _, _, _, _, _, _, rfl, f1, f2⟩
  · refine ⟨_, rfl, p, w0, w1, 4, rfl, hp4, by decide, by decide, fun r q0 q1 r0 r1 => ⟨rfl, _, rfl, ?_⟩⟩
    by_cases hr0 : r = 0
    · subst hr0
      refine iteDT rfl (q_asg1 ?_)
      have b5 : But p H2 (upd H4 p (.lst [.int q0, .int q1])) := b24.trans But.mut
      have hp5 : upd H4 p (.lst [.int q0, .int q1]) p = some (.lst [.int q0, .int q1]) := upd_same
      have ht5 : ChAt K (upd H4 p (.lst [.int q0, .int q1])) t0 c0 := by
        have kp := KeepNL.ofBut hp4 (But.mut (H := H4) (p := p) (o := .lst [.int q0, .int q1]))
        rcases ht0 with (e | ⟨o, e⟩) | e
        · exact .inl (.inl (kp _ _ (fun _ z => by cases z) e))
        · exact .inl (.inr ⟨o, kp _ _ (fun _ z => by cases z) e⟩)
        · exact .inr e
      generalize upd H4 p (.lst [.int q0, .int q1]) = H5 at b5 hp5 ht5 ⊢
      refine ⟨_, rfl, _, rfl, t0, _, rfl, ht5, head_part c0, fun tA ntA => ?_⟩
      rw [cut_head]
      have s6 : Same H5 (upd H5 tA (.tup [.str c0.kind])) := same_new ntA
      have hA : upd H5 tA (.tup [.str c0.kind]) tA = some (.tup [.str c0.kind]) := upd_same
      generalize upd H5 tA (.tup [.str c0.kind]) = H6 at s6 hA ⊢
      refine ⟨_, rfl, by show 2 ≤ sizeLine; decide, fun lq nlq => ?_⟩
      have s7 : Same H6 (upd H6 lq (.lst [.str "d", .str "zz"])) := same_new nlq
      have hlq : upd H6 lq (.lst [.str "d", .str "zz"]) lq = some (.lst [.str "d", .str "zz"]) := upd_same
      have hp6 := s6 _ _ hp5
      have nlqp : lq ≠ p := fun z => by rw [z, hp6] at nlq; cases nlq
      generalize upd H6 lq (.lst [.str "d", .str "zz"]) = H7 at s7 hlq ⊢
      refine ⟨p, lq, q0, q1, _, rfl, s7 _ _ hp6, hlq, nlqp, by decide, by decide, fun x x0 x1 hx => ?_⟩
      obtain ⟨n, rfl, hn⟩ : ∃ n : Str, x = .str n ∧ isNm (.str n) = true := by
        rcases List.mem_cons.mp hx with e | e
        · exact ⟨_, e, by decide +kernel⟩
        · exact ⟨_, List.mem_singleton.mp e, by decide +kernel⟩
      have b7 : But p H5 (upd H7 p (.lst [.int x0, .int x1])) := (But.of (s6.trans s7)).trans But.mut
      have hp8 : upd H7 p (.lst [.int x0, .int x1]) p = some (.lst [.int x0, .int x1]) := upd_same
      have ntAp : tA ≠ p := fun z => by rw [z, hp5] at ntA; cases ntA
      have hA8 : upd H7 p (.lst [.int x0, .int x1]) tA = some (.tup [.str c0.kind]) := by rw [upd_ne ntAp]; exact s7 _ _ hA
      generalize upd H7 p (.lst [.int x0, .int x1]) = H8 at b7 hp8 hA8 ⊢
      refine ⟨by show 1 ≤ sizeLine; decide, fun tB ntB => ?_⟩
      have s9 : Same H8 (upd H8 tB (.tup [.str n])) := same_new ntB
      have hB : upd H8 tB (.tup [.str n]) tB = some (.tup [.str n]) := upd_same
      generalize upd H8 tB (.tup [.str n]) = H9 at s9 hB ⊢
      refine ⟨tA, tB, [.str c0.kind], [.str n], rfl, rfl, sqT_of (s9 _ _ hA8), sqT_of hB, (fun z => by cases z), by show 2 ≤ sizeLine; decide, (fun z => by cases z), fun _ tC ntC => ?_⟩
      have sA : Same H9 (upd H9 tC (.tup ([.str c0.kind] ++ [.str n]))) := same_new ntC
      have hC : upd H9 tC (.tup ([.str c0.kind] ++ [.str n])) tC = some (.tup ([.str c0.kind] ++ [.str n])) := upd_same
      generalize upd H9 tC (.tup ([.str c0.kind] ++ [.str n])) = HA at sA hC ⊢
      have s8A := s9.trans sA
      have ht8 : ChAt K H8 t0 c0 := by
        have kp := KeepNL.ofBut hp5 b7
        rcases ht5 with (e | ⟨o, e⟩) | e
        · exact .inl (.inl (kp _ _ (fun _ z => by cases z) e))
        · exact .inl (.inr ⟨o, kp _ _ (fun _ z => by cases z) e⟩)
        · exact .inr e
      refine ⟨_, rfl, _, rfl, t0, _, rfl, ht8.keep s8A, rest_part c0, fun tD ntD => ?_⟩
      rw [cut_rest]
      have sB : Same HA (upd HA tD (.tup (c0.toV.drop 2))) := same_new ntD
      have hD : upd HA tD (.tup (c0.toV.drop 2)) tD = some (.tup (c0.toV.drop 2)) := upd_same
      generalize upd HA tD (.tup (c0.toV.drop 2)) = HB at sB hD ⊢
      have fin : ∀ HZ, Same HB HZ → But p H2 HZ ∧ HZ p = some (.lst [.int x0, .int x1]) := fun HZ sZ => ⟨(b5.trans b7).trans (But.of ((s8A.trans sB).trans sZ)), ((s8A.trans sB).trans sZ) _ _ hp8⟩
      have hlen : ([V.str c0.kind] ++ [V.str n]).length + (c0.toV.drop 2).length ≤ sizeLine := by
        have : c0.toV.length ≤ 4 := by cases c0 <;> (simp [Ch.toV])
        rw [List.length_drop]
        show 2 + _ ≤ _
        omega
      refine ⟨tC, tD, _, _, rfl, rfl, sqT_of (sB _ _ hC), sqT_of hD, (fun z => by cases z), hlen, fun he => ?_, fun _ tE ntE => ?_⟩
      · obtain ⟨f1, f2⟩ := fin HB (Same.refl _)
        refine kq _ _ ⟨tC, c0.named n, x0, x1, rfl, f1, f2, sqT_of ?_, named_fits f0 hn⟩
        rw [sB _ _ hC, named_toV, he, List.append_nil]
      · have sE : Same HB (upd HB tE (.tup ([.str c0.kind] ++ [.str n] ++ c0.toV.drop 2))) := same_new ntE
        obtain ⟨f1, f2⟩ := fin _ sE
        refine kq _ _ ⟨tE, c0.named n, x0, x1, rfl, f1, f2, sqT_of ?_, named_fits f0 hn⟩
        rw [upd_same, named_toV]
    · refine iteD (fun z => hr0 (V.int.inj z)) (nxt ?_)
      have b5 : But p H2 (upd H4 p (.lst [.int q0, .int q1])) := b24.trans But.mut
      refine kq _ _ ⟨t0, c0, q0, q1, rfl, b5, upd_same, ?_, f0⟩
      have kp := KeepNL.ofBut hp4 (But.mut (H := H4) (p := p) (o := .lst [.int q0, .int q1]))
      rcases ht0 with (e | ⟨o, e⟩) | e
      · exact .inl (.inl (kp _ _ (fun _ z => by cases z) e))
      · exact .inl (.inr ⟨o, kp _ _ (fun _ z => by cases z) e⟩)
      · exact .inr e
end
theorem factsR {w : World} {K : PySem.W.Frag} {h : Heap} {mg : Str → Option Value} {f : Addr} (X : K.In h) (G : h.Ns mainGlobals mg) (hfa : mg ("law" : Str) = some (.ref f)) (c : He.SaysD fal fnl K ∧ exl K = true) :
    LawOk PySem.Challenge.rw_editionrows_k03_whole_words w mg CX0 11 63 "_law_script" f K := by
  have T : Tx K mg := ⟨c.1, c.2, h, X, G⟩
  obtain ⟨fd, F⟩ := fd_law T
  have e := hfa.symm.trans (mg_law T)
  cases e
  have b := FunD.bindsA (ps := ["_law_script"]) F fun _ _ _ _ _ _ us hl => match us, hl with | [_], _ => rfl
  exact ⟨fd, sp_law K, fun s v => b s [v] rfl, fun H a ns hl hb _ hS => ⟨a, ns, rfl, hS, hl, hb, fun _ => rfl⟩, fun base _ _ => ok_law T F⟩
end ER
open PySem PySem.W PySem.Calls PyProof.Rows
set_option maxRecDepth 100000 in
set_option maxHeartbeats 8000000 in
theorem PySem.Challenge.cw_editionrows_k03_whole_words_holds : PySem.Challenge.rw_editionrows_k03_whole_words.Holds := by
  w_on; o_law
  refine HandSHeadRun.head_any (r := OpenLaw.row PySem.Challenge.rw_editionrows_k03_whole_words) (q := view (OpenLaw.row PySem.Challenge.rw_editionrows_k03_whole_words).prog [50]) (H := ER.hkR) (ob := ER.obR) (M := 9000) (loose := ER.looseR) (d := HandSHeadRun.topDef (OpenLaw.row PySem.Challenge.rw_editionrows_k03_whole_words).prog 50) (kwd := []) ER.obR_eq
    (by kernel_rfl) (fun s => by kernel_rfl) ER.runR (by kernel_rfl) (by kernel_rfl) (by kernel_rfl) (by rfl) (by first | assumption | decide +kernel) (by decide +kernel) ⟨rfl, rfl, rfl, rfl, rfl, by decide +kernel⟩ ?hw ?hc
  case hw => w_witness2
  case hc =>
    refine Evl2.walk_bits (l := PySem.Challenge.rw_editionrows_k03_whole_words) (n := 63) (k := 11) (x := "_law_script") (CX := L2.CX0) rfl (by decide) (by kernel_rfl) ⟨rfl, by decide, by decide⟩ ?F (fun _ _ _ _ z => z)
    intro w mg fa h Y G hmg0
    obtain ⟨K, KX, c⟩ := Y
    have hmg : mg ("law" : PySem.Str) = some (.ref fa) := by
      have e : (HandSHeadRun.topDef (OpenLaw.row PySem.Challenge.rw_editionrows_k03_whole_words).prog 50).name = ("law" : PySem.Str) := by kernel_rfl
      rw [← e]
      exact hmg0
    exact ⟨K, KX, ER.factsR (w := w) KX G hmg c⟩

