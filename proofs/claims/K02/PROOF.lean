import PyProof.Rows.All
import Wide.All
import OpenK.AllK
import Wide.FinOn
import PyProof.EqAt
import PyProof.EqKinds
import PyProof.TupleCall
import KE.KStateDown
import Lean
import HandS.Base
import HandS.Call
import HandS.List
import HandS.Comp
import HandS.Ends
import HandS.Dict
import HandS.Iter
import HandS.More
import HandS.Words
import HandS.WordsList
import HandS.WordsDict
import HandS.Exc
import HandS.WordsExc
import HandS.Defaults
import HandS.Head0
import HandS.Head1
import HandS.Head2
import HandS.HeadEnd
import HandS.HeadHook1
import HandS.HeadHook2
import HandS.EndBits
import HandS.Wide
import HandS.IsInst
import HandS.Style
import HandS.Flow
import HandS.SortInts
import HandS.ExcIs
import HandS.Conv
import HandS.Text
import HandS.Walk
import HandS.MakeKwOnly
import HandS.Codes
import HandS.Zip0
import HandS.DictComp
import HandS.DictEq
import HandS.NoneIn
import HandS.Small
import KE.KDictPairs
import KE.GoesEnumKw
import KE.KDictCopyH
import HandS.ExcInit
import HandS.ExcField
import HandS.OwnEq
import HandS.TryOnly
import PySem.Challenge.RW_editionrows_k02_columns
set_option Elab.async false
set_option linter.all false
set_option maxRecDepth 100000
set_option maxHeartbeats 4000000
/-! What every text of ours begins with: a called def in one word, the head's Hook with one more Bool, the end with the script's bits. -/
namespace Evl2
open PySem PySem.Spec PyProof.Rows L2
/-- a def of the text, with its promise, as a caller takes it -/
structure Callee (P : Program) (w : World) (K : PySem.W.Frag) (mg : Str → Option Value) (base : Heap) (CX : CXT) (k : Nat) (x : Str) (ps : List Str) (dvs : List V) (sp : Sp) : Prop where
  ex : ∃ (fd : FuncData) (ds : List Value), FnOk P w K mg base CX k (He.ga K x) fd ps sp ∧ Binds K fd ps ds ∧ Vals dvs ds
  kp : PySem.W.keepIn K (.ref (He.ga K x)) = true
  g : mg x = some (.ref (He.ga K x))
theorem Callee.up {P : Program} {w : World} {K : PySem.W.Frag} {mg : Str → Option Value} {base : Heap} {CX : CXT} {j k : Nat} {x : Str} {ps : List Str} {dvs : List V} {sp : Sp}
    (C : Callee P w K mg base CX j x ps dvs sp) (h : j ≤ k) : Callee P w K mg base CX k x ps dvs sp := by
  obtain ⟨fd, ds, F, b, v⟩ := C.ex
  exact ⟨⟨fd, ds, F.mono h, b, v⟩, C.kp, C.g⟩
/-- f(e, ..) -/
theorem pcall {X : Cx} {k : Nat} {x : Str} {ps : List Str} {dvs : List V} {sp : Sp} {p pos : Pos} {e : Expr} {es : List Expr} {t : TA} (C : Callee X.prog X.w X.K X.mg X.base CX0 k x ps dvs sp) (hr : Room k X.A) (ha : PA X (e :: es) t) (hg : Gl X x := by rfl)
    (hdb : (x == ("__debug__" : Str)) = false := by decide) (he : starEach (e :: es) X.env = (false, eval e X.env) :: starEach es X.env := by rfl) (hpl : (backTo pos (starEach es X.env)).any (·.1) = false := by rfl) :
    PE X (.Call (.Name x p) (e :: es) [] pos) (tCall sp dvs E0 t) := by
  obtain ⟨fd, ds, F, b, v⟩ := C.ex
  exact pe_call F hr hg C.g C.kp b v pass0 ha hdb he hpl
/-- f() -/
theorem pcall0 {X : Cx} {k : Nat} {x : Str} {ps : List Str} {dvs : List V} {sp : Sp} {p pos : Pos} (C : Callee X.prog X.w X.K X.mg X.base CX0 k x ps dvs sp) (hr : Room k X.A) (hg : Gl X x := by rfl)
    (hdb : (x == ("__debug__" : Str)) = false := by decide) : PE X (.Call (.Name x p) [] [] pos) (tCall sp dvs E0 tNil) := by
  obtain ⟨fd, ds, F, b, v⟩ := C.ex
  exact pe_call0 F hr hg C.g C.kp b v pass0 hdb
/-! ### the head's Hook: the library's facts and one more Bool -/
abbrev AlP : Type := He.AlD × Bool
/-- addresses not yet seen, told by the bits of a number -/
def newA : List Addr → Nat → List Addr → (Nat → List Addr → List Addr) → List Addr
  | [], s, acc, k => k s acc
  | a :: r, s, acc, k => HandSHeadRun.frNat a fun a => match Nat.beq (Nat.land (Nat.shiftRight s a) 1) 1 with
    | true => newA r s acc k
    | false => HandSHeadRun.frNat (Nat.lor s (Nat.shiftLeft 1 a)) fun s => newA r s (a :: acc) k
def refsA (g : Addr → Option Obj) : List Addr → List Addr
  | [] => []
  | a :: r => (match g a with
    | some o => He.refsD o
    | none => []) ++ refsA g r
/-- the addresses reached from the globals in so many steps, each object looked at once -/
def levA (g : Addr → Option Obj) : Nat → Nat → List Addr → List Addr
  | 0, _, fr => fr
  | n + 1, s, fr => newA (refsA g fr) s [] fun s fr' => fr ++ levA g n s fr'
def asW (g : Addr → Option Obj) (n : Nat) : List Addr := levA g n (Nat.shiftLeft 1 mainGlobals) [mainGlobals]
def mapV : List He.DefD → List He.FnW
  | [] => []
  | d :: r => d.val :: mapV r
def obsP (n : Nat) (fa : List He.Fa) (fn : List He.DefD) (ex : PySem.W.Frag → Bool) (g : Addr → Option Obj) : AlP := (He.obsD fa fn (He.frG g (asW g n)), ex (He.frG g (asW g n)))
def valP (fn : List He.DefD) : AlP := ((true, mapV fn), true)
theorem mapV_eq : ∀ fn : List He.DefD, mapV fn = fn.map He.DefD.val
  | [] => rfl
  | d :: r => congrArg (d.val :: ·) (mapV_eq r)
theorem valP_eq (fn : List He.DefD) : valP fn = (He.valD fn, true) := by
  unfold valP He.valD
  rw [mapV_eq]
def hookP (n : Nat) (fa : List He.Fa) (fn : List He.DefD) (ex : PySem.W.Frag → Bool) : PySem.W.Hook where
  α := AlP
  obs := fun s => obsP n fa fn ex s.heap.get?
  val := fun _ => valP fn
  says := fun _ h => ∃ K : PySem.W.Frag, K.In h ∧ (He.SaysD fa fn K ∧ ex K = true)
  of := fun _ _ e => ⟨_, He.frG_in, (congrArg (fun z : AlP => z.1) e).trans (congrArg (fun z : AlP => z.1) (valP_eq fn)), congrArg (fun z : AlP => z.2) e⟩
  keeps := fun _ _ _ ⟨K, hK, c⟩ k => ⟨K, PySem.W.Frag.In.keeps hK k, c⟩
theorem obsP_eq {n : Nat} {fa : List He.Fa} {fn : List He.DefD} {ex : PySem.W.Frag → Bool} {g : Addr → Option Obj} {s : Shared} (h : ∀ a, g a = s.heap.get? a) : obsP n fa fn ex g = (hookP n fa fn ex).obs s := by
  have e : g = s.heap.get? := funext h
  rw [e] <;> rfl
/-- what a law's end wants of its promise at a written part K -/
def LawOk (l : PySem.W.OpenLaw) (w : World) (mg : Str → Option Value) (CX : CXT) (k n : Nat) (x : Str) (fa : Addr) (K : PySem.W.Frag) : Prop :=
  ∃ (fd : FuncData) (sp : Sp), (∀ (s : Shared) (u : Value), BindsTo s fd ⟨[u], []⟩ [(x, u)]) ∧
    (∀ (H : Hp) (a : Addr) (ns : List Int), ns.length ≤ n → (∀ z ∈ ns, Builtin.Int.intBits z ≤ 1048576) → Only H → SqL K H a (ns.map V.int) → sp [.ref a] H (fun v _ => v = .bl true) fun _ _ _ => False) ∧
    ∀ base : Heap, K.In base → base.Ns mainGlobals mg → FnOk l.prog w K mg base CX k fa fd [x] sp
theorem walk_bits {l : PySem.W.OpenLaw} {n k : Nat} {q : Program} {loose : List Str} {XP : (Str → Option Value) → Heap → Prop} {YP : World → Heap → Prop} {d : DefRec} {CX : CXT} {x : Str} (hn : l.most = some n) (hn2 : n ≤ sizeLine) (hdf : d.params.defaults = []) (hr : Room k callerA)
    (F : ∀ (w : World) (mg : Str → Option Value) (fa : Addr) (h : Heap), YP w h → h.Ns mainGlobals mg → mg d.name = some (.ref fa) → ∃ K : PySem.W.Frag, K.In h ∧ LawOk l w mg CX k n x fa K)
    (hCX : ∀ (H : Hp) (s : Shared) (e : Value) (s' : Shared), CX [] H s (fun _ _ _ => False) e s' → False) : PySem.W.WalkO q loose XP YP l.row.toRowW d [] (fun f vs => PySem.call f vs) := by
  refine Att.attach_callB hn hdf fun w s₀ s₁ mg mb fa o pm cd doc a vs ns G Y ho hd hcd hmg hobj hints hlen hbits hg => ?_
  obtain ⟨K, KX, fd, sp, hb, hsp, hF⟩ := F w mg fa _ Y G.T.g hmg
  exact law_call KX G.T.g G.T.b G.T.builtins G.T.nolimit hg hobj hints (Nat.le_trans hlen hn2) hr hF hb (fun H hO hS => hsp H a ns hlen hbits hO hS) fun H e s' => hCX H s₁ e s'
end Evl2
/-! ### more words of ours -/
namespace Evl2
open PySem PySem.Spec PyProof.Rows L2
section
variable {P : Program} {w : World} {K : PySem.W.Frag} {mg : Str → Option Value} {base : Heap}
/-- a method without defaults -/
theorem mkMeth {m q : Str} {params : Arguments} {body : List Stmt} {scope : Scope} {N ps : List Str} {k : Nat} {sp : Sp} {f : Addr} (hF : ∃ fd, FunD K m q params body scope [] [] f fd) (S : FnScope N ps scope)
    (hb : ∀ (kV doc pm : Value) (an : Option Addr) (cdv ct : Value) (us : List Value), us.length = ps.length → bindArgs (PySem.W.fnOf m q params body scope .none kV doc pm an cdv ct) ⟨us, []⟩ = pure (ps.zip us))
    (len : ∀ vs H Q E, sp vs H Q E → vs.length = ps.length)
    (hbody : ∀ (cdv : Value) (A : Around) (outer : List Env) (s : Shared) (H : Hp) (vs : List V) (Q : VK) (E : XK), Room k (A.deeper (envOfC q scope s.heap.objs.size f cdv)) → sp vs H Q E →
      ∃ t, PSs (cxOf CX0 P w K mg base N q scope f cdv A outer s H E).nox body t ∧ t { nx := fun _ H' => Q .non H', rt := Q } (start N vs) H) : ∃ fd, FnOk P w K mg base CX0 (k + 1) f fd ps sp ∧ Binds K fd ps [] := by
  obtain ⟨fd, F⟩ := hF
  refine ⟨fd, F.ok S len fun cdv A outer s H vs Q E hr h => ?_, F.bindsN hb⟩
  obtain ⟨t, h1, h2⟩ := hbody cdv A outer s H vs Q E hr h
  exact ⟨t, h1.nox, h2⟩
/-- a def without defaults, as a callee -/
theorem mkCallee {x y : Str} {params : Arguments} {body : List Stmt} {scope : Scope} {N ps : List Str} {k : Nat} {sp : Sp} (hF : ∃ fd, FunD K y y params body scope [] [] (He.ga K x) fd) (hg : mg x = some (.ref (He.ga K x))) (S : FnScope N ps scope)
    (hb : ∀ (kV doc pm : Value) (an : Option Addr) (cdv ct : Value) (us : List Value), us.length = ps.length → bindArgs (PySem.W.fnOf y y params body scope .none kV doc pm an cdv ct) ⟨us, []⟩ = pure (ps.zip us))
    (len : ∀ vs H Q E, sp vs H Q E → vs.length = ps.length)
    (hbody : ∀ (cdv : Value) (A : Around) (outer : List Env) (s : Shared) (H : Hp) (vs : List V) (Q : VK) (E : XK), Room k (A.deeper (envOfC y scope s.heap.objs.size (He.ga K x) cdv)) → sp vs H Q E →
      ∃ t, PSs (cxOf CX0 P w K mg base N y scope (He.ga K x) cdv A outer s H E).nox body t ∧ t { nx := fun _ H' => Q .non H', rt := Q } (start N vs) H) : Callee P w K mg base CX0 (k + 1) x ps [] sp := by
  obtain ⟨fd, F⟩ := hF
  refine ⟨⟨fd, [], F.ok S len fun cdv A outer s H vs Q E hr h => ?_, F.bindsN hb, .nil⟩, F.kp, hg⟩
  obtain ⟨t, h1, h2⟩ := hbody cdv A outer s H vs Q E hr h
  exact ⟨t, h1.nox, h2⟩
end
theorem s_whenX {t : TT} {tu : TS} {D : Ends} {σ : L2.St} {H : Hp} (P : Hp → Prop) (test : ∀ R : Bool → Hp → Prop, (∀ b H1, P H1 → R b H1) → t σ H R) (body : ∀ H1, P H1 → tu D σ H1) (skip : ∀ H1, P H1 → D.nx σ H1) : tIfS t tu tNext D σ H :=
  test _ fun b H1 p => by
    cases b
    · exact iteF (skip H1 p)
    · exact iteT (body H1 p)
theorem nxt {D : Ends} {σ : L2.St} {H : Hp} (h : D.nx σ H) : tNext D σ H := h
theorem iteD {c A B : Prop} [Decidable c] (hc : ¬ c) (h : B) : if decide c = true then A else B := by
  rw [decide_eq_false hc]
  exact iteF h
theorem iteDT {c A B : Prop} [Decidable c] (hc : c) (h : A) : if decide c = true then A else B := by
  rw [decide_eq_true hc]
  exact iteT h
theorem iteNF {c A B : Prop} [Decidable c] (hc : ¬ c) (h : A) : if (!decide c) = true then A else B := by
  rw [decide_eq_false hc]
  exact iteT h
theorem nes {a b : Str} (h : a ≠ b) : ¬ V.str a = V.str b := fun z => h (V.str.inj z)
theorem nei {a b : Int} (h : a ≠ b) : ¬ V.int a = V.int b := fun z => h (V.int.inj z)
/-- an own error class that is kept -/
def excB (K : PySem.W.Frag) (x : Str) : Bool := PySem.W.keepIn K (.ref (He.ga K x))
/-- what isinstance asks of an own class -/
def insB (K : PySem.W.Frag) (x : Str) : Bool := decide (PySem.W.findIn K (.ref (He.ga K x)) "__class__" = some (some (.builtin "object.__class__"))) && (decide (PySem.W.specialIn K (.builtin "object.__class__") "__get__" = some (some (.builtin "getset_descriptor.__get__"))) &&
  (decide (PySem.W.takesIn K (.builtin "object.__class__") = some true) && decide (PySem.W.mroIn K (He.ga K x) (.type "object") = some true)))
theorem insC_of {K : PySem.W.Frag} {x : Str} (h : insB K x = true) (c : Cls K (He.ga K x)) : C8.InsC K (He.ga K x) := by
  unfold insB at h
  rw [Bool.and_eq_true, Bool.and_eq_true, Bool.and_eq_true] at h
  exact ⟨c, of_decide_eq_true h.1, of_decide_eq_true h.2.1, of_decide_eq_true h.2.2.1, of_decide_eq_true h.2.2.2, if_pos (beq_self_eq_true _)⟩
/-- the own class x is none of the builtin ones -/
def noTs : List String := ["NoneType", "bool", "int", "str", "list", "tuple", "dict"]
def ninB (K : PySem.W.Frag) (x : Str) : Bool := noTs.all fun t => decide (PySem.W.kitOne K (.type t) (.ref (He.ga K x)) = some false) && PySem.W.notFirst K (He.ga K x) (.type t)
theorem ninB_kit {K : PySem.W.Frag} {x : Str} (h : ninB K x = true) {t : String} (ht : t ∈ noTs) : PySem.W.kitOne K (.type t) (.ref (He.ga K x)) = some false := of_decide_eq_true (Bool.and_eq_true_iff.mp (List.all_eq_true.mp h t ht)).1
theorem ninB_first {K : PySem.W.Frag} {x : Str} (h : ninB K x = true) {t : String} (ht : t ∈ noTs) : PySem.W.notFirst K (He.ga K x) (.type t) = true := (Bool.and_eq_true_iff.mp (List.all_eq_true.mp h t ht)).2
/-- what != of an own class asks -/
def neB (K : PySem.W.Frag) (x : Str) : Bool := decide (PySem.W.findIn K (.ref (He.ga K x)) "__ne__" = some (some (.builtin "object.__ne__"))) && decide (PySem.W.mroIn K (He.ga K x) (.type "object") = some true)
structure NeC (K : PySem.W.Frag) (C : Addr) : Prop where
  at_ : PySem.W.findIn K (.ref C) "__ne__" = some (some (.builtin "object.__ne__"))
  ob : PySem.W.mroIn K C (.type "object") = some true
theorem neC_of {K : PySem.W.Frag} {x : Str} (h : neB K x = true) : NeC K (He.ga K x) := by
  unfold neB at h
  rw [Bool.and_eq_true] at h
  exact ⟨of_decide_eq_true h.1, of_decide_eq_true h.2⟩
/-- an own error class over ValueError with an own __init__ that keeps its argument under f -/
def oexB (K : PySem.W.Frag) (x f : Str) : Bool := (match K.lookup (He.ga K x) with
  | some ⟨.type "type", _, .cls cd, sl⟩ => (match cd.mro, sl.toList with
    | .ref C' :: bm, [_, _, _, _, some (.builtin n), _] => C' == He.ga K x && (n == "ValueError.__new__" && (!cd.hasDel && (PySem.HandSPX.refsVE bm && cd.hasDict)))
    | _, _ => false)
  | _ => false) && (decide (PySem.W.findIn K (.ref (He.ga K x)) "__setattr__" = some (some (.builtin "object.__setattr__"))) && (decide (PySem.W.subIn K (.ref (He.ga K x)) (.type "BaseException") = some true) && (decide (PySem.W.typeIn K (.ref (He.ga K x)) = some (.type "type")) &&
    (PySem.W.keepIn K (.ref (He.ga K x)) && (xfB K (He.ga K x) && (decide (PySem.W.findIn K (.ref (He.ga K x)) "__init__" = some (some (.ref (He.ma K (He.ga K x) "__init__")))) && (decide (PySem.W.typeIn K (.ref (He.ma K (He.ga K x) "__init__")) = some (.type "function")) &&
    (decide (PySem.W.findIn K (.ref (He.ga K x)) f = some none) && decide (PySem.W.exmOne K (.ref (He.ga K x)) (.ref (He.ga K x)) = some true)))))))))
structure OexF (K : PySem.W.Frag) (x f : Str) : Prop where
  o : OexC K (He.ga K x)
  xf : XfC K (He.ga K x)
  i : PySem.W.findIn K (.ref (He.ga K x)) "__init__" = some (some (.ref (He.ma K (He.ga K x) "__init__")))
  ti : PySem.W.typeIn K (.ref (He.ma K (He.ga K x) "__init__")) = some (.type "function")
  no : PySem.W.findIn K (.ref (He.ga K x)) f = some none
  me : PySem.W.exmOne K (.ref (He.ga K x)) (.ref (He.ga K x)) = some true
theorem oexB_ok {K : PySem.W.Frag} {x f : Str} (h : oexB K x f = true) : OexF K x f := by
  unfold oexB at h
  simp only [Bool.and_eq_true, decide_eq_true_eq] at h
  obtain ⟨h0, h1, h2, h3, h4, h5, h6, h7, h8, h9⟩ := h
  refine ⟨⟨?_, h1, h2, h3, h4⟩, xfB_ok h5, h6, h7, h8, h9⟩
  split at h0
  · rename_i dd cd sl ho
    split at h0
    · rename_i C' bm k0 k1 k2 k3 n k5 hm hs
      simp only [Bool.and_eq_true, beq_iff_eq, Bool.not_eq_true'] at h0
      obtain ⟨hc, hn, hdel, hve, hd⟩ := h0
      obtain ⟨nm, bs, mro, ns, qn, hd', sn, sub, ab, col, del⟩ := cd
      dsimp only at hm hdel hd
      subst hm hdel hd hc hn
      have hsl : sl = #[k0, k1, k2, k3, some (.builtin "ValueError.__new__"), k5] := by
        obtain ⟨l⟩ := sl
        simp only at hs
        rw [hs]
      subst hsl
      exact ⟨_, _, _, _, _, _, _, _, _, _, _, _, _, _, _, ho, hve⟩
    · cases h0
  · cases h0
/-- the empty tuple of the written part -/
def emptyTupB (K : PySem.W.Frag) (a : Addr) : Bool := match K.lookup a with
  | some ⟨.type c, _, .seq its _, _⟩ => decide (c = "tuple") && decide (its.size = 0)
  | _ => false
/-- a pool of draws: a list of two ints -/
def Pl (H : Hp) (a : Addr) : Prop := ∃ z0 z1 : Int, H a = some (.lst [.int z0, .int z1])
/-- all but what stands at a is as it was, at a stands a pool -/
def PlEx (a : Addr) (H H' : Hp) : Prop := (∀ b o, b ≠ a → H b = some o → H' b = some o) ∧ Pl H' a
theorem mod_lo {i j : Int} (h : 0 < j) : 0 ≤ i.fmod j := Int.fmod_nonneg_of_pos i h
theorem mod_hi {i j : Int} (h : 0 < j) : i.fmod j < j := Int.fmod_lt_of_pos i h
/-- values of built-in types: is it an int (no bool)? -/
def isI : V → Bool
  | .int _ => true
  | _ => false
theorem kit_whole {K : PySem.W.Frag} {H : Hp} {x : V} {t : String} (ty : TyX K H x (.type t)) : ∃ a b : Bool, kitB t "int" = some a ∧ kitB t "bool" = some b ∧ (a && !b) = isI x := by
  cases ty with
  | base h => cases h <;> first | exact ⟨true, false, by decide +kernel, by decide +kernel, rfl⟩ | exact ⟨true, true, by decide +kernel, by decide +kernel, rfl⟩ | exact ⟨false, false, by decide +kernel, by decide +kernel, rfl⟩
  | _ => exact ⟨false, false, by decide +kernel, by decide +kernel, rfl⟩
/-! ### heaps -/
theorem same_new {H : Hp} {p : Addr} {o : HO} (h : H p = none) : Same H (upd H p o) := fun a u e => by
  rw [upd_ne (ne_of_none e h)]
  exact e
theorem same_mut {H H' : Hp} {p : Addr} {o : HO} (e : Same H H') (h : H p = none) : Same H (upd H' p o) := fun a u ha => by
  rw [upd_ne (ne_of_none ha h)]
  exact e a u ha
theorem same_tup {K : PySem.W.Frag} {H H' : Hp} {a : Addr} {xs : List V} (e : Same H H') (h : SqT K H a xs) : SqT K H' a xs := by
  rcases h with (h | ⟨o, h⟩) | h
  · exact .inl (.inl (e _ _ h))
  · exact .inl (.inr ⟨o, e _ _ h⟩)
  · exact .inr h
theorem sqL_of {K : PySem.W.Frag} {H : Hp} {a : Addr} {xs : List V} (h : H a = some (.lst xs)) : SqL K H a xs := .inl (.inl h)
theorem sqT_of {K : PySem.W.Frag} {H : Hp} {a : Addr} {xs : List V} (h : H a = some (.tup xs)) : SqT K H a xs := .inl (.inl h)
/-! ### comprehensions that change nothing -/
section
variable {K : PySem.W.Frag} {σ : L2.St} {H : Hp} {tl te : TE} {ta : TA} {tt : TT} {j : Nat} {vs : List Nat} {Q : VK} {xs : List V}
theorem lc_one {f : V → Bool} {v : V → V} {H' : Hp} {D : Addr} {zs : List V} {x : V} (hD : H D = none) (hz : zs.length ≤ 100000) {σ2 : L2.St} (p : Same H H' ∧ H' D = some (.lst zs))
    (ht : ∀ R : Bool → Hp → Prop, (∀ H2, Same H' H2 → R (f x) H2) → tt σ2 H' R) (he : f x = true → ∀ H', Same H H' → ∀ R : VK, (∀ H2, Same H' H2 → R (v x) H2) → te σ2 H' R) {N : Hp → Prop}
    (hN : ∀ H', Same H H' → H' D = some (.lst (zs ++ ([x].filter f).map v)) → N H') :
    tt σ2 H' fun b H3 => if b = true then te σ2 H3 fun y H4 => ∃ acc, H4 D = some (.lst acc) ∧ acc.length < sizeLine ∧ N (upd H4 D (.lst (acc ++ [y]))) else N H3 := by
  refine ht _ fun H3 e3 => ?_
  cases hf : f x with
  | true =>
    refine iteT (he hf H3 (p.1.trans e3) _ fun H4 e4 => ⟨zs, e4 D _ (e3 D _ p.2), Nat.lt_of_le_of_lt hz (by decide), hN _ (same_mut ((p.1.trans e3).trans e4) hD) ?_⟩)
    rw [upd_same, List.filter_cons, if_pos hf]
    rfl
  | false =>
    refine iteF (hN _ (p.1.trans e3) ?_)
    rw [List.filter_cons, if_neg (by rw [hf]; decide)]
    show H3 D = some (.lst (zs ++ []))
    rw [List.append_nil]
    exact e3 D _ p.2
theorem take_one (f : V → Bool) (v : V → V) {i : Nat} {x : V} (h : xs[i]? = some x) : ((xs.take i).filter f).map v ++ ([x].filter f).map v = ((xs.take (i + 1)).filter f).map v := by
  rw [List.take_add_one, h, List.filter_append, List.map_append]
  rfl
theorem take_len (f : V → Bool) (v : V → V) (i : Nat) : (((xs.take i).filter f).map v).length ≤ xs.length := by
  rw [List.length_map]
  refine Nat.le_trans (List.length_filter_le _ _) ?_
  rw [List.length_take]
  exact Nat.min_le_right _ _
theorem tlc_L (f : V → Bool) (v : V → V) (htl : ∀ R : VK, (∀ a H1, Same H H1 → SqL K H1 a xs → R (.ref a) H1) → tl σ H R) (hz : xs.length ≤ 100000) (hw : ∀ x, wipe ((wipe σ vs).set j (some x)) vs = wipe σ vs)
    (ht : ∀ x ∈ xs, ∀ H', Same H H' → ∀ R : Bool → Hp → Prop, (∀ H2, Same H' H2 → R (f x) H2) → tt ((wipe σ vs).set j (some x)) H' R)
    (he : ∀ x ∈ xs, f x = true → ∀ H', Same H H' → ∀ R : VK, (∀ H2, Same H' H2 → R (v x) H2) → te ((wipe σ vs).set j (some x)) H' R)
    (k : ∀ D H', H D = none → Same H H' → H' D = some (.lst ((xs.filter f).map v)) → Q (.ref D) H') : tLc (iList K tl) (gName j) tt te vs σ H Q := by
  refine htl _ fun a H1 e1 hs => ⟨a, rfl, ⟨xs, hs⟩, fun D hD => ?_⟩
  have key : ∀ i x H', xs[i]? = some x → (Same H1 H' ∧ H' D = some (.lst (((xs.take i).filter f).map v))) → gName j x (wipe σ vs) H' fun σ2 H2 => wipe σ2 vs = wipe σ vs ∧ tt σ2 H2 fun b H3 =>
      if b = true then te σ2 H3 fun y H4 => ∃ acc, H4 D = some (.lst acc) ∧ acc.length < sizeLine ∧ (Same H1 (upd H4 D (.lst (acc ++ [y]))) ∧ (upd H4 D (.lst (acc ++ [y]))) D = some (.lst (((xs.take (i + 1)).filter f).map v)))
      else (Same H1 H3 ∧ H3 D = some (.lst (((xs.take (i + 1)).filter f).map v))) := fun i x H' hi p =>
    ⟨hw x, lc_one (N := fun H' => Same H1 H' ∧ H' D = some (.lst (((xs.take (i + 1)).filter f).map v))) (f := f) (v := v) (x := x) hD (Nat.le_trans (take_len f v i) hz) p (ht x (List.mem_of_getElem? hi) H' (e1.trans p.1))
      (fun hf H2 e2 => he x (List.mem_of_getElem? hi) hf H2 (e1.trans e2)) fun H2 s2 d2 => ⟨s2, by rw [d2, take_one f v hi]⟩⟩
  refine lc_list (xs := xs) (fun i H' => Same H1 H' ∧ H' D = some (.lst (((xs.take i).filter f).map v))) ⟨same_new hD, ?_⟩ (fun i H' _ p => p.1.seq hs) key fun H' p => k D H' (e1.free hD) (e1.trans p.1) ?_
  · exact upd_same
  · have q := p.2
    rw [List.take_length] at q
    exact q
theorem tlc_T (f : V → Bool) (v : V → V) (htl : ∀ R : VK, (∀ a H1, Same H H1 → SqT K H1 a xs → R (.ref a) H1) → tl σ H R) (hz : xs.length ≤ 100000) (hw : ∀ x, wipe ((wipe σ vs).set j (some x)) vs = wipe σ vs)
    (ht : ∀ x ∈ xs, ∀ H', Same H H' → ∀ R : Bool → Hp → Prop, (∀ H2, Same H' H2 → R (f x) H2) → tt ((wipe σ vs).set j (some x)) H' R)
    (he : ∀ x ∈ xs, f x = true → ∀ H', Same H H' → ∀ R : VK, (∀ H2, Same H' H2 → R (v x) H2) → te ((wipe σ vs).set j (some x)) H' R)
    (k : ∀ D H', H D = none → Same H H' → H' D = some (.lst ((xs.filter f).map v)) → Q (.ref D) H') : tLc (iTup K tl) (gName j) tt te vs σ H Q := by
  refine htl _ fun a H1 e1 hs => ⟨a, rfl, ⟨xs, hs⟩, fun D hD => ?_⟩
  have key : ∀ i x H', xs[i]? = some x → (Same H1 H' ∧ H' D = some (.lst (((xs.take i).filter f).map v))) → gName j x (wipe σ vs) H' fun σ2 H2 => wipe σ2 vs = wipe σ vs ∧ tt σ2 H2 fun b H3 =>
      if b = true then te σ2 H3 fun y H4 => ∃ acc, H4 D = some (.lst acc) ∧ acc.length < sizeLine ∧ (Same H1 (upd H4 D (.lst (acc ++ [y]))) ∧ (upd H4 D (.lst (acc ++ [y]))) D = some (.lst (((xs.take (i + 1)).filter f).map v)))
      else (Same H1 H3 ∧ H3 D = some (.lst (((xs.take (i + 1)).filter f).map v))) := fun i x H' hi p =>
    ⟨hw x, lc_one (N := fun H' => Same H1 H' ∧ H' D = some (.lst (((xs.take (i + 1)).filter f).map v))) (f := f) (v := v) (x := x) hD (Nat.le_trans (take_len f v i) hz) p (ht x (List.mem_of_getElem? hi) H' (e1.trans p.1))
      (fun hf H2 e2 => he x (List.mem_of_getElem? hi) hf H2 (e1.trans e2)) fun H2 s2 d2 => ⟨s2, by rw [d2, take_one f v hi]⟩⟩
  refine lc_tup (xs := xs) (fun i H' => Same H1 H' ∧ H' D = some (.lst (((xs.take i).filter f).map v))) ⟨same_new hD, ?_⟩ (fun i H' _ p => same_tup p.1 hs) key fun H' p => k D H' (e1.free hD) (e1.trans p.1) ?_
  · exact upd_same
  · have q := p.2
    rw [List.take_length] at q
    exact q
theorem rg_at {n i : Nat} (h : i < n) : ((List.range n).map fun m : Nat => V.int (m : Int))[i]? = some (V.int (i : Int)) := by
  rw [List.getElem?_map, List.getElem?_range h]
  rfl
theorem tlc_R (f : V → Bool) (v : V → V) (n : Int) (hta : ∀ R : List V → Hp → Prop, (∀ H1, Same H H1 → R [.int n] H1) → ta σ H R) (hz : n ≤ 100000) (hw : ∀ x, wipe ((wipe σ vs).set j (some x)) vs = wipe σ vs)
    (ht : ∀ m : Nat, (m : Int) < n → ∀ H', Same H H' → ∀ R : Bool → Hp → Prop, (∀ H2, Same H' H2 → R (f (.int m)) H2) → tt ((wipe σ vs).set j (some (.int m))) H' R)
    (he : ∀ m : Nat, (m : Int) < n → f (.int m) = true → ∀ H', Same H H' → ∀ R : VK, (∀ H2, Same H' H2 → R (v (.int m)) H2) → te ((wipe σ vs).set j (some (.int m))) H' R) (hlo : -100000 ≤ n)
    (k : ∀ D H', H D = none → Same H H' → H' D = some (.lst ((((List.range n.toNat).map fun m : Nat => V.int (m : Int)).filter f).map v)) → Q (.ref D) H') : tLc (iRng1 ta) (gName j) tt te vs σ H Q := by
  refine hta _ fun H1 e1 => ⟨n, rfl, by omega, by omega, fun D hD => ?_⟩
  have key : ∀ i H', i < n.toNat → (Same H1 H' ∧ H' D = some (.lst (((((List.range n.toNat).map fun m : Nat => V.int (m : Int)).take i).filter f).map v))) → gName j (.int ((0 : Int) + (i : Int))) (wipe σ vs) H' fun σ2 H2 => wipe σ2 vs = wipe σ vs ∧ tt σ2 H2 fun b H3 =>
      if b = true then te σ2 H3 fun y H4 => ∃ acc, H4 D = some (.lst acc) ∧ acc.length < sizeLine ∧ (Same H1 (upd H4 D (.lst (acc ++ [y]))) ∧ (upd H4 D (.lst (acc ++ [y]))) D = some (.lst (((((List.range n.toNat).map fun m : Nat => V.int (m : Int)).take (i + 1)).filter f).map v)))
      else (Same H1 H3 ∧ H3 D = some (.lst (((((List.range n.toNat).map fun m : Nat => V.int (m : Int)).take (i + 1)).filter f).map v))) := fun i H' hi p => by
    have e0 : (0 : Int) + (i : Int) = (i : Int) := Int.zero_add _
    rw [e0]
    have hin : (i : Int) < n := by omega
    have hl := take_len (xs := (List.range n.toNat).map fun m : Nat => V.int (m : Int)) f v i
    have hl2 : ((List.range n.toNat).map fun m : Nat => V.int (m : Int)).length = n.toNat := by simp
    exact ⟨hw _, lc_one (N := fun H' => Same H1 H' ∧ H' D = some (.lst (((((List.range n.toNat).map fun m : Nat => V.int (m : Int)).take (i + 1)).filter f).map v))) (f := f) (v := v) (x := .int i) hD (by omega) p (ht i hin H' (e1.trans p.1))
      (fun hf H2 e2 => he i hin hf H2 (e1.trans e2)) fun H2 s2 d2 => ⟨s2, by rw [d2, take_one f v (rg_at hi)]⟩⟩
  refine lc_range (lo := 0) (n := n.toNat) (fun i H' => Same H1 H' ∧ H' D = some (.lst (((((List.range n.toNat).map fun m : Nat => V.int (m : Int)).take i).filter f).map v))) ⟨same_new hD, ?_⟩ key fun H' p => k D H' (e1.free hD) (e1.trans p.1) ?_
  · exact upd_same
  · have q := p.2
    rw [List.take_of_length_le (by simp)] at q
    exact q
end
section
variable {K : PySem.W.Frag} {σ : L2.St} {H : Hp} {te ta : TE} {tt : TT} {U : TS} {D : Ends}
/-- if t: l.append(e), told by the truth of t -/
theorem q_ifapp {l : Addr} {zs : List V} {v : V} (b : Bool) (ht : ∀ R : Bool → Hp → Prop, (∀ H2, Same H H2 → R b H2) → tt σ H R) (hl : H l = some (.lst zs)) (hz : zs.length ≤ 100000) (ha : ∀ (H : Hp) (R : VK), R (.ref l) H → ta σ H R) (he : ∀ (H : Hp) (R : VK), R v H → te σ H R)
    (k : ∀ H', (∀ c o, c ≠ l → H c = some o → H' c = some o) → H' l = some (.lst (zs ++ if b = true then [v] else [])) → U D σ H') : tSeq (tIfS tt (tDrop (tBM K "list" rAppend ta (tCons te tNil))) tNext) U D σ H := by
  refine ht _ fun H2 s2 => ?_
  cases b with
  | true =>
    refine iteT (ha H2 _ ⟨.inl ⟨rfl, _, sqL_of (s2 _ _ hl)⟩, he _ _ ⟨l, _, _, rfl, rfl, s2 _ _ hl, Nat.lt_of_le_of_lt hz (by decide), k _ (fun c o hc e => ?_) upd_same⟩⟩)
    rw [upd_ne hc]
    exact s2 _ _ e
  | false =>
    refine iteF (k H2 (fun c o _ e => s2 _ _ e) ?_)
    show H2 l = some (.lst (zs ++ []))
    rw [List.append_nil]
    exact s2 _ _ hl
end
section
variable {σ : L2.St} {H : Hp} {te : TE} {U : TS} {D : Ends}
/-- x = e, then the rest -/
theorem q_asgX {i : Nat} (h : te σ H fun x H1 => U D (σ.set i (some x)) H1) : tSeq (tAsg te (gName i)) U D σ H := h
/-- x = e, e some int -/
theorem q_asgI {i : Nat} (h : ∀ R : VK, (∀ z : Int, R (.int z) H) → te σ H R) (k : ∀ z : Int, U D (σ.set i (some (.int z))) H) : tSeq (tAsg te (gName i)) U D σ H := h _ k
end
section
variable {K : PySem.W.Frag} {σ : L2.St} {H : Hp} {X : TE} {r : List V → Hp → VK → Prop} {g : TG} {tb U : TS} {D : Ends}
/-- a test by a call of one argument, a for over such a call: the argument first -/
theorem pl_b1 {R : Bool → Hp → Prop} (h : X σ H fun v H1 => r [v] H1 fun x H2 => ∃ c, x = .bl c ∧ R c H2) : tB (tCB r (tCons X tNil)) σ H R := h
theorem pl_r1 {r : List V → Hp → VK → Prop} (h : X σ H fun v H1 => r [v] H1 D.rt) : tRet (tCB r (tCons X tNil)) D σ H := h
theorem pl_forL1 (h : X σ H fun v H1 => r [v] H1 fun x H2 => ∃ a, x = .ref a ∧ (∃ xs, SqL K H2 a xs) ∧ tFor (fun _ H R => R (Itl K a) H) g tb { D with nx := U D } σ H2) : tSeq (tFor (iList K (tCB r (tCons X tNil))) g tb) U D σ H := h
end
/-! ### == of lists of flat values -/
def okV : V → Bool
  | .non => true
  | .bl _ => true
  | .int _ => true
  | .str x => PyData.canLay0 (.str x)
  | _ => false
def dtV : V → PyData
  | .bl b => .bool b
  | .int i => .int i
  | .str x => .str x
  | _ => .none
theorem dp_ok {K : PySem.W.Frag} {H : Hp} : ∀ {x : V}, okV x = true → Dp K H x (dtV x)
  | .non, _ => .non
  | .bl b, _ => .bl b
  | .int i, _ => .int i
  | .str x, _ => .str x
  | .byt _, h => by cases h
  | .flt _, h => by cases h
  | .ref _, h => by cases h
  | .ty _, h => by cases h
theorem dps_ok {K : PySem.W.Frag} {H : Hp} : ∀ {xs : List V}, xs.all okV = true → DpAll K H xs (xs.map dtV)
  | [], _ => .nil
  | x :: r, h => by
    rw [List.all_cons, Bool.and_eq_true] at h
    exact .cons (dp_ok h.1) (dps_ok h.2)
theorem lay_ok : ∀ {x : V}, okV x = true → PyData.canLay0 (dtV x) = true ∧ PyData.depth (dtV x) = 0
  | .non, _ => ⟨rfl, rfl⟩
  | .bl b, _ => ⟨rfl, rfl⟩
  | .int i, _ => ⟨rfl, rfl⟩
  | .str x, h => ⟨h, rfl⟩
  | .byt _, h => by cases h
  | .flt _, h => by cases h
  | .ref _, h => by cases h
  | .ty _, h => by cases h
theorem lays_ok : ∀ {xs : List V}, xs.all okV = true → PyData.canLayAll0 (xs.map dtV) = true ∧ PyData.depthAll (xs.map dtV) = 0
  | [], _ => ⟨rfl, rfl⟩
  | x :: r, h => by
    rw [List.all_cons, Bool.and_eq_true] at h
    obtain ⟨h1, h2⟩ := lay_ok h.1
    obtain ⟨h3, h4⟩ := lays_ok h.2
    constructor
    · show (PyData.canLay0 (dtV x) && PyData.canLayAll0 (r.map dtV)) = true
      rw [h1, h3]
      rfl
    · show max (PyData.depth (dtV x)) (PyData.depthAll (r.map dtV)) = 0
      rw [h2, h4]
      rfl
theorem shaped_ok {xs : List V} (h : xs.all okV = true) : SeqAt.shaped (.list (xs.map dtV)) = true := by
  obtain ⟨h1, h2⟩ := lays_ok h
  unfold SeqAt.shaped
  rw [Bool.and_eq_true]
  refine ⟨h1, decide_eq_true ?_⟩
  show PyData.depthAll (xs.map dtV) + 1 ≤ 64
  rw [h2]
  decide
theorem eqv_ok : ∀ {x : V}, okV x = true → PyData.eqv (dtV x) (dtV x) = true
  | .non, _ => rfl
  | .bl b, _ => by simp [dtV, PyData.eqv]
  | .int i, _ => by simp [dtV, PyData.eqv]
  | .str x, _ => by simp [dtV, PyData.eqv]
  | .byt _, h => by cases h
  | .flt _, h => by cases h
  | .ref _, h => by cases h
  | .ty _, h => by cases h
theorem eqvs_ok : ∀ {xs : List V}, xs.all okV = true → PyData.eqvAll (xs.map dtV) (xs.map dtV) = true
  | [], _ => rfl
  | x :: r, h => by
    rw [List.all_cons, Bool.and_eq_true] at h
    show (PyData.eqv (dtV x) (dtV x) && PyData.eqvAll (r.map dtV) (r.map dtV)) = true
    rw [eqv_ok h.1, eqvs_ok h.2]
    rfl
theorem ne_lists {K : PySem.W.Frag} {H : Hp} {p q : Addr} {xs : List V} {Q : VK} (hp : SqL K H p xs) (hq : SqL K H q xs) (hf : xs.all okV = true) (k : Q (.bl false) H) : rNeD K (.ref p) (.ref q) H Q := by
  refine ⟨.list (xs.map dtV), .list (xs.map dtV), .lst hp (dps_ok hf), .lst hq (dps_ok hf), shaped_ok hf, shaped_ok hf, ?_⟩
  have e : PyData.eqv (.list (xs.map dtV)) (.list (xs.map dtV)) = true := eqvs_ok hf
  rw [e]
  exact k
/-- a value of a built-in type that is no object -/
theorem ty_ok {K : PySem.W.Frag} {H : Hp} : ∀ {x : V}, okV x = true → ∃ t, TyX K H x (.type t)
  | .non, _ => ⟨_, .base .non⟩
  | .bl b, _ => ⟨_, .base (.bl b)⟩
  | .int i, _ => ⟨_, .base (.int i)⟩
  | .str x, _ => ⟨_, .base (.str x)⟩
  | .byt _, h => by cases h
  | .flt _, h => by cases h
  | .ref _, h => by cases h
  | .ty _, h => by cases h
theorem tys_ok {K : PySem.W.Frag} : ∀ {x : V}, okV x = true → ∃ t, ∀ H : Hp, TyX K H x (.type t)
  | .non, _ => ⟨_, fun _ => .base .non⟩
  | .bl b, _ => ⟨_, fun _ => .base (.bl b)⟩
  | .int i, _ => ⟨_, fun _ => .base (.int i)⟩
  | .str x, _ => ⟨_, fun _ => .base (.str x)⟩
  | .byt _, h => by cases h
  | .flt _, h => by cases h
  | .ref _, h => by cases h
  | .ty _, h => by cases h
section
variable {K : PySem.W.Frag} {σ : L2.St} {H : Hp} {tl te : TE} {j : Nat} {vs : List Nat} {Q : VK}
/-- [e for c in a text] -/
theorem tlc_S (v : Nat → V) (z : Str) (htl : ∀ R : VK, R (.str z) H → tl σ H R) (hz : z.cps.size ≤ 100000) (hw : ∀ x, wipe ((wipe σ vs).set j (some x)) vs = wipe σ vs)
    (he : ∀ c ∈ z.cps.toList, ∀ H', Same H H' → ∀ R : VK, (∀ H2, Same H' H2 → R (v c) H2) → te ((wipe σ vs).set j (some (.str ⟨#[c]⟩))) H' R)
    (k : ∀ D H', H D = none → Same H H' → H' D = some (.lst (z.cps.toList.map v)) → Q (.ref D) H') : tLc (iStr tl) (gName j) tYes te vs σ H Q := by
  refine htl _ ⟨z, rfl, fun D hD => ?_⟩
  refine lc_it walk_str (fun i H' => Same H H' ∧ H' D = some (.lst ((z.cps.toList.take i).map v))) ⟨same_new hD, upd_same⟩ (fun _ _ _ _ => trivial) ?_ fun H' p => k D H' hD p.1 ?_
  · rintro i x H' H2 hi p ⟨rfl, c, hc, rfl⟩
    have hc2 : z.cps.toList[i]? = some c := by rw [Array.getElem?_toList]; exact hc
    have hm : c ∈ z.cps.toList := List.mem_of_getElem? hc2
    refine ⟨hw _, he c hm _ p.1 _ fun H3 s3 => ⟨_, s3 _ _ p.2, ?_, same_mut (p.1.trans s3) hD, ?_⟩⟩
    · rw [List.length_map, List.length_take]
      have e : sizeLine = 16777216 := by decide
      omega
    · rw [upd_same, List.take_add_one, hc2, List.map_append]
      rfl
  · have q := p.2
    rw [List.take_of_length_le (by simp)] at q
    exact q
end
/-- None and the ints from 0 to g -/
def valsTo (g : Int) : List V := .non :: rgV 0 (g + 1)
/-- all that is no list is as it was -/
def KeepNL (H H' : Hp) : Prop := ∀ b o, (∀ zs, o ≠ HO.lst zs) → H b = some o → H' b = some o
theorem KeepNL.of {H H' : Hp} (s : Same H H') : KeepNL H H' := fun b o _ e => s b o e
theorem KeepNL.lst {H : Hp} {D : Addr} {zs ys : List V} (h : H D = some (.lst zs)) : KeepNL H (upd H D (.lst ys)) := fun b o n e => by
  rw [upd_ne (fun q => by rw [q, h] at e; exact n zs (Option.some.inj e).symm)]
  exact e
section
variable {K : PySem.W.Frag} {σ : L2.St} {H : Hp} {tl te : TE} {j : Nat} {vs : List Nat} {Q : VK} {xs : List V}
/-- [e for x in xs], e making new objects (no lists among what is told of them) -/
theorem tlc_G (Rl : Nat → V → Hp → Prop) (mono : ∀ i y H H', KeepNL H H' → Rl i y H → Rl i y H') (htl : ∀ R : VK, (∀ a H1, Same H H1 → SqL K H1 a xs → R (.ref a) H1) → tl σ H R) (hz : xs.length ≤ 100000) (hw : ∀ x, wipe ((wipe σ vs).set j (some x)) vs = wipe σ vs)
    (he : ∀ i x, xs[i]? = some x → ∀ H', Same H H' → ∀ R : VK, (∀ y H2, Same H' H2 → Rl i y H2 → R y H2) → te ((wipe σ vs).set j (some x)) H' R)
    (k : ∀ D ys H', H D = none → Same H H' → H' D = some (.lst ys) → ys.length = xs.length → (∀ i y, ys[i]? = some y → Rl i y H') → Q (.ref D) H') : tLc (iList K tl) (gName j) tYes te vs σ H Q := by
  refine htl _ fun a H1 e1 hs => ⟨a, rfl, ⟨xs, hs⟩, fun D hD => ?_⟩
  refine lc_list (xs := xs) (fun i H' => Same H1 H' ∧ ∃ ys, H' D = some (.lst ys) ∧ ys.length = i ∧ ∀ m y, ys[m]? = some y → Rl m y H') ⟨same_new hD, [], upd_same, rfl, fun m y h => by simp at h⟩ (fun i H' _ p => p.1.seq hs) ?_ ?_
  · rintro i x H' hx ⟨s', ys, hys, hl, hr⟩
    have hi : i < xs.length := (List.getElem?_eq_some_iff.mp hx).1
    refine ⟨hw x, he i x hx H' (e1.trans s') _ fun y H2 s2 hy => ⟨ys, s2 _ _ hys, ?_, same_mut (s'.trans s2) hD, ys ++ [y], upd_same, by rw [List.length_append, hl]; rfl, fun m z hm => ?_⟩⟩
    · have e : sizeLine = 16777216 := by decide
      omega
    · have kp : KeepNL H2 (upd H2 D (.lst (ys ++ [y]))) := KeepNL.lst (s2 _ _ hys)
      by_cases hm2 : m < ys.length
      · rw [List.getElem?_append_left hm2] at hm
        exact mono m z _ _ kp (mono m z _ _ (KeepNL.of s2) (hr m z hm))
      · have hm3 : m = ys.length := by
          have h := (List.getElem?_eq_some_iff.mp hm).1
          rw [List.length_append] at h
          have : [y].length = 1 := rfl
          omega
        subst hm3
        rw [List.getElem?_append_right (Nat.le_refl _), Nat.sub_self] at hm
        obtain rfl : y = z := Option.some.inj hm
        rw [hl]
        exact mono i y _ _ kp hy
  · rintro H' ⟨s', ys, hys, hl, hr⟩
    exact k D ys H' (e1.free hD) (e1.trans s') hys hl hr
end
end Evl2
/-! ### own methods called by the language: len(x), v in x, x == y, of instances with a __dict__ -/
namespace Evl2
open PySem PySem.Spec PyProof.Rows L2
section
variable {X : Cx} {CX : CXT} {k : Nat} {f C : Addr} {fd : FuncData} {ps : List Str} {sp : Sp} {E : XK}
/-- an own function called at a place below the running body -/
theorem runA {A : Around} {pins : List (Addr × Obj)} {σ : L2.St} {H : Hp} {s : Shared} {Q : VK} {us : List Value} {vs : List V} (F : FnOk X.prog X.w X.K X.mg X.base CX k f fd ps sp) (hr : Room k A) (e0 : Env0 X.prog X.w X.K X.mg X.base A X.stack s H) (hb : Binds X.K fd ps []) (hx : Passes CX X E)
    (I : Inv X pins σ H s) (r : Vals vs us) (h : sp vs H Q E) : wpAny (model X.prog X.w) A (call (.ref f) us) (EP X pins σ Q) X.xe s := by
  have hl : us.length = ps.length := by rw [← r.length]; exact F.len _ _ _ _ h
  refine wpAny_call (codeAny_mono (F.run A X.stack s H ⟨us, []⟩ us vs Q E hr e0 (by
    have := hb s us I.kIn (by simpa using hl)
    simpa using this) r h) fun r s' hq => ?_)
  cases r with
  | error e => exact hx pins σ H s e s' I hq
  | ok fl =>
    cases fl with
    | ret u => exact I.after hq
    | next => exact False.elim hq
    | brk => exact False.elim hq
    | cont => exact False.elim hq
def rLenOwn (C : Addr) (sp : Sp) (E : XK) : List V → Hp → VK → Prop := fun xs H Q => ∃ a dx fs, xs = [V.ref a] ∧ H a = some (.ins C dx fs) ∧ sp [.ref a] H (fun z H' => ∃ i : Int, z = .int i ∧ (0 ≤ i ∧ i < 2 ^ 63) ∧ Q (.int i) H') E
/-- len(x), x with an own __len__ -/
theorem call_lenOwn (F : FnOk X.prog X.w X.K X.mg X.base CX k f fd ps sp) (hm : Meth X.K C "__len__" f) (hr : Room (k + 1) X.A) (hb : Binds X.K fd ps []) (hx : Passes CX X E) : CallR X (.builtin "len") (rLenOwn C sp E) := by
  intro pins s σ H xs us Q I r h
  obtain ⟨a, dx, fs, rfl, ha, q⟩ := h
  obtain ⟨u, rfl, ru⟩ := r.one
  cases (show u = Value.ref a from ru)
  obtain ⟨mA, J, _⟩ := ins_get I.hok ha
  obtain ⟨od, J, _⟩ := J.look
  obtain ⟨m, hF⟩ := I.fr
  refine PySem.W.len_K hF I.ok.mod.kin J hm.at_ hm.fn ?_
  refine wpAny_mono (runA (us := [.ref a]) (vs := [.ref a]) F hr.in1 I.env0.in1 hb hx I (.cons rfl .nil) q) (fun v s' z => ?_) fun _ _ e => e
  obtain ⟨z', H', I', rz, i, ei, hi, qz⟩ := z
  subst ei
  obtain ⟨t, e⟩ := (show ∃ t, v = Value.int i t from rz)
  cases e
  exact ⟨hi, .int i, H', I'.tok _, ⟨_, rfl⟩, qz⟩
def rInOwn (C : Addr) (sp : Sp) (E : XK) : R2 := fun x y H Q => ∃ a dx fs, y = .ref a ∧ H a = some (.ins C dx fs) ∧ sp [y, x] H (fun z H' => ∃ b, z = .bl b ∧ Q (.bl b) H') E
/-- v in x, x with an own __contains__ that answers a Bool -/
theorem op_inOwn (F : FnOk X.prog X.w X.K X.mg X.base CX k f fd ps sp) (hm : Meth X.K C "__contains__" f) (hr : Room k X.A) (hb : Binds X.K fd ps []) (hx : Passes CX X E) : OpR X (compareOp .In) (rInOwn C sp E) := by
  intro pins s σ H x y v u Q I rx ry h
  obtain ⟨a, dx, fs, rfl, ha, q⟩ := h
  cases (show u = Value.ref a from ry)
  obtain ⟨mA, J, _⟩ := ins_get I.hok ha
  obtain ⟨od, J, _⟩ := J.look
  obtain ⟨m, hF⟩ := I.fr
  refine PySem.W.in_K hF I.ok.mod.kin J hm.at_ hm.fn ?_
  refine wpAny_mono (runA (us := [.ref a, v]) (vs := [.ref a, x]) F hr I.env0 hb hx I (.cons rfl (.cons rx .nil)) q) (fun r s' z => ?_) fun _ _ e => e
  obtain ⟨z', H', I', rz, b, eb, qz⟩ := z
  subst eb
  cases (show r = Value.bool b from rz)
  exact wpAny_truthy_bool ⟨.bl b, H', I', rfl, qz⟩
def rEqOwn (C : Addr) (sp : Sp) (E : XK) : R2 := fun x y H Q => ∃ a dx fs b dy gs, x = .ref a ∧ y = .ref b ∧ H a = some (.ins C dx fs) ∧ H b = some (.ins C dy gs) ∧ sp [x, y] H (fun z H' => ∃ c, z = .bl c ∧ Q (.bl c) H') E
/-- x == y, both of a class with an own __eq__ that answers a Bool -/
theorem op_eqOwn (F : FnOk X.prog X.w X.K X.mg X.base CX k f fd ps sp) (hm : Meth X.K C "__eq__" f) (hr : Room k X.A) (hb : Binds X.K fd ps []) (hx : Passes CX X E) : OpR X (compareOp .Eq) (rEqOwn C sp E) := by
  intro pins s σ H x y v u Q I rx ry h
  obtain ⟨a, dx, fs, b, dy, gs, rfl, rfl, ha, hb', q⟩ := h
  cases (show v = Value.ref a from rx)
  cases (show u = Value.ref b from ry)
  obtain ⟨mA, J, _⟩ := ins_get I.hok ha
  obtain ⟨od, J, _⟩ := J.look
  obtain ⟨mB, J', _⟩ := ins_get I.hok hb'
  obtain ⟨od', J', _⟩ := J'.look
  obtain ⟨m, hF⟩ := I.fr
  show wpAny (model X.prog X.w) X.A (richCompare .Eq (.ref a) (.ref b)) (EP X pins σ Q) X.xe s
  refine PySem.W.cmp_K (op := .Eq) (tb := .ref C) hr.units0 hF I.ok.mod.kin J J'.type (by simp [PySem.W.notFirst]) hm.at_ hm.fn ?_
  refine wpAny_mono (runA (us := [.ref a, .ref b]) (vs := [.ref a, .ref b]) F hr I.env0 hb hx I (.cons rfl (.cons rfl .nil)) q) (fun r s' z => ?_) fun _ _ e => e
  obtain ⟨z', H', I', rz, c, ec, qz⟩ := z
  subst ec
  cases (show r = Value.bool c from rz)
  exact ⟨.bl c, H', I', rfl, qz⟩
end
end Evl2
/-! ### comprehensions over enumerate -/
namespace Evl2
open PySem PySem.Spec PyProof.Rows L2
section
variable {K : PySem.W.Frag} {σ : L2.St} {H : Hp} {ta : TA} {te : TE} {j1 j2 : Nat} {vs : List Nat} {Q : VK} {xs : List V}
/-- [e for i, x in enumerate(xs)], e making new objects (no lists among what is told of them) -/
theorem tlc_GE (Rl : Nat → V → Hp → Prop) (mono : ∀ i y H H', KeepNL H H' → Rl i y H → Rl i y H') (hta : ∀ R : List V → Hp → Prop, (∀ a H1, Same H H1 → SqL K H1 a xs → R [.ref a] H1) → ta σ H R) (hz : xs.length ≤ 100000) (hw : ∀ x y, wipe (((wipe σ vs).set j1 (some x)).set j2 (some y)) vs = wipe σ vs)
    (he : ∀ i x, xs[i]? = some x → ∀ H', Same H H' → ∀ R : VK, (∀ y H2, Same H' H2 → Rl i y H2 → R y H2) → te (((wipe σ vs).set j1 (some (.int (i : Nat)))).set j2 (some x)) H' R)
    (k : ∀ D ys H', H D = none → Same H H' → H' D = some (.lst ys) → ys.length = xs.length → (∀ i y, ys[i]? = some y → Rl i y H') → Q (.ref D) H') : tLc (iEnum K ta) (gTup K 2 (gCons (gName j1) (gCons (gName j2) gNil))) tYes te vs σ H Q := by
  refine hta _ fun a H1 e1 hs => ⟨a, xs, rfl, hs, fun D hD => ?_⟩
  refine lc_it walk_enum (fun i H' => Same H1 H' ∧ ∃ ys, H' D = some (.lst ys) ∧ ys.length = i ∧ ∀ m y, ys[m]? = some y → Rl m y H') ⟨same_new hD, [], upd_same, rfl, fun m y h => by simp at h⟩ (fun i H' _ p => p.1.seq hs) ?_ ?_
  · rintro i v H2 H3 hi ⟨s', ys, hys, hl, hr⟩ ⟨T, x', y', rfl, nT, rfl, ex, ey⟩
    obtain rfl := Option.some.inj ex
    have ey : xs[i]? = some y' := ey
    have st : Same H2 (upd H2 T (.tup [.int (i : Nat), y'])) := same_new nT
    refine ⟨T, _, rfl, sqT_of upd_same, rfl, _, _, rfl, _, _, rfl, rfl, hw _ _, he i y' ey _ (e1.trans (s'.trans st)) _ fun y H4 s2 hy => ⟨ys, s2 _ _ (st _ _ hys), ?_, same_mut (s'.trans (st.trans s2)) hD, ys ++ [y], upd_same, by rw [List.length_append, hl]; rfl, fun m z hm => ?_⟩⟩
    · have e : sizeLine = 16777216 := by decide
      omega
    · have kp : KeepNL H4 (upd H4 D (.lst (ys ++ [y]))) := KeepNL.lst (s2 _ _ (st _ _ hys))
      by_cases hm2 : m < ys.length
      · rw [List.getElem?_append_left hm2] at hm
        exact mono m z _ _ kp (mono m z _ _ (KeepNL.of (st.trans s2)) (hr m z hm))
      · have hm3 : m = ys.length := by
          have h := (List.getElem?_eq_some_iff.mp hm).1
          rw [List.length_append] at h
          have : [y].length = 1 := rfl
          omega
        subst hm3
        rw [List.getElem?_append_right (Nat.le_refl _), Nat.sub_self] at hm
        obtain rfl : y = z := Option.some.inj hm
        rw [hl]
        exact mono i y _ _ kp hy
  · rintro H' ⟨s', ys, hys, hl, hr⟩
    exact k D ys H' (e1.free hD) (e1.trans s') hys hl hr
end
end Evl2

namespace ER
open PySem PySem.Spec PyProof.Rows L2 Evl2
def top (i : Nat) : Stmt := PySem.Challenge.pw_editionrows_k02_columns.main.body.getD i (.Pass ⟨0, 0, 0, 0⟩)
abbrev s_BadPart___init__ : Stmt := inClass (top 2) 0
theorem sc_BadPart___init__ : FnScope ["self", "part"] ["self", "part"] (defScope s_BadPart___init__) := ⟨rfl, rfl, rfl, by decide +kernel, rfl, by decide +kernel, by decide +kernel⟩
def d_BadPart___init__ : He.DefD := ⟨("BadPart", some "__init__"), "__init__", "BadPart.__init__", defArgs s_BadPart___init__, defBody s_BadPart___init__, defScope s_BadPart___init__, [], []⟩
abbrev s_is_whole : Stmt := top 7
theorem sc_is_whole : FnScope ["value"] ["value"] (defScope s_is_whole) := ⟨rfl, rfl, rfl, by decide +kernel, rfl, by decide +kernel, by decide +kernel⟩
def d_is_whole : He.DefD := ⟨("is_whole", none), "is_whole", "is_whole", defArgs s_is_whole, defBody s_is_whole, defScope s_is_whole, [], []⟩
abbrev s_is_word : Stmt := top 8
theorem sc_is_word : FnScope ["value", "words"] ["value", "words"] (defScope s_is_word) := ⟨rfl, rfl, rfl, by decide +kernel, rfl, by decide +kernel, by decide +kernel⟩
def d_is_word : He.DefD := ⟨("is_word", none), "is_word", "is_word", defArgs s_is_word, defBody s_is_word, defScope s_is_word, [], []⟩
abbrev s_is_name : Stmt := top 9
theorem sc_is_name : FnScope ["value", "letter"] ["value"] (defScope s_is_name) := ⟨rfl, rfl, rfl, by decide +kernel, rfl, by decide +kernel, by decide +kernel⟩
def d_is_name : He.DefD := ⟨("is_name", none), "is_name", "is_name", defArgs s_is_name, defBody s_is_name, defScope s_is_name, [], []⟩
abbrev s_is_greatest : Stmt := top 10
theorem sc_is_greatest : FnScope ["value"] ["value"] (defScope s_is_greatest) := ⟨rfl, rfl, rfl, by decide +kernel, rfl, by decide +kernel, by decide +kernel⟩
def d_is_greatest : He.DefD := ⟨("is_greatest", none), "is_greatest", "is_greatest", defArgs s_is_greatest, defBody s_is_greatest, defScope s_is_greatest, [], []⟩
abbrev s_is_value : Stmt := top 11
theorem sc_is_value : FnScope ["value"] ["value"] (defScope s_is_value) := ⟨rfl, rfl, rfl, by decide +kernel, rfl, by decide +kernel, by decide +kernel⟩
def d_is_value : He.DefD := ⟨("is_value", none), "is_value", "is_value", defArgs s_is_value, defBody s_is_value, defScope s_is_value, [], []⟩
abbrev s_is_within : Stmt := top 12
theorem sc_is_within : FnScope ["value", "greatest"] ["value", "greatest"] (defScope s_is_within) := ⟨rfl, rfl, rfl, by decide +kernel, rfl, by decide +kernel, by decide +kernel⟩
def d_is_within : He.DefD := ⟨("is_within", none), "is_within", "is_within", defArgs s_is_within, defBody s_is_within, defScope s_is_within, [], []⟩
abbrev s_values_to : Stmt := top 13
theorem sc_values_to : FnScope ["greatest"] ["greatest"] (defScope s_values_to) := ⟨rfl, rfl, rfl, by decide +kernel, rfl, by decide +kernel, by decide +kernel⟩
def d_values_to : He.DefD := ⟨("values_to", none), "values_to", "values_to", defArgs s_values_to, defBody s_values_to, defScope s_values_to, [], []⟩
abbrev s_Column___init__ : Stmt := inClass (top 16) 0
theorem sc_Column___init__ : FnScope ["self", "name", "greatest", "default", "number"] ["self", "name", "greatest", "default", "number"] (defScope s_Column___init__) := ⟨rfl, rfl, rfl, by decide +kernel, rfl, by decide +kernel, by decide +kernel⟩
def d_Column___init__ : He.DefD := ⟨("Column", some "__init__"), "__init__", "Column.__init__", defArgs s_Column___init__, defBody s_Column___init__, defScope s_Column___init__, [.non], [("number", (.int 0))]⟩
abbrev s_Column___eq__ : Stmt := inClass (top 16) 1
theorem sc_Column___eq__ : FnScope ["self", "other"] ["self", "other"] (defScope s_Column___eq__) := ⟨rfl, rfl, rfl, by decide +kernel, rfl, by decide +kernel, by decide +kernel⟩
def d_Column___eq__ : He.DefD := ⟨("Column", some "__eq__"), "__eq__", "Column.__eq__", defArgs s_Column___eq__, defBody s_Column___eq__, defScope s_Column___eq__, [], []⟩
abbrev s_Column___contains__ : Stmt := inClass (top 16) 2
theorem sc_Column___contains__ : FnScope ["self", "x"] ["self", "x"] (defScope s_Column___contains__) := ⟨rfl, rfl, rfl, by decide +kernel, rfl, by decide +kernel, by decide +kernel⟩
def d_Column___contains__ : He.DefD := ⟨("Column", some "__contains__"), "__contains__", "Column.__contains__", defArgs s_Column___contains__, defBody s_Column___contains__, defScope s_Column___contains__, [], []⟩
abbrev s_Column_all_values : Stmt := inClass (top 16) 3
theorem sc_Column_all_values : FnScope ["self"] ["self"] (defScope s_Column_all_values) := ⟨rfl, rfl, rfl, by decide +kernel, rfl, by decide +kernel, by decide +kernel⟩
def d_Column_all_values : He.DefD := ⟨("Column", some "all_values"), "all_values", "Column.all_values", defArgs s_Column_all_values, defBody s_Column_all_values, defScope s_Column_all_values, [], []⟩
abbrev s_Column_changed : Stmt := inClass (top 16) 4
theorem sc_Column_changed : FnScope ["self", "part", "value", "parts"] ["self", "part", "value"] (defScope s_Column_changed) := ⟨rfl, rfl, rfl, by decide +kernel, rfl, by decide +kernel, by decide +kernel⟩
def d_Column_changed : He.DefD := ⟨("Column", some "changed"), "changed", "Column.changed", defArgs s_Column_changed, defBody s_Column_changed, defScope s_Column_changed, [], []⟩
abbrev s__law_pool : Stmt := top 18
theorem sc__law_pool : FnScope ["_law_script", "_law_k", "_law_size", "_law_mixed"] ["_law_script", "_law_k"] (defScope s__law_pool) := ⟨rfl, rfl, rfl, by decide +kernel, rfl, by decide +kernel, by decide +kernel⟩
def d__law_pool : He.DefD := ⟨("_law_pool", none), "_law_pool", "_law_pool", defArgs s__law_pool, defBody s__law_pool, defScope s__law_pool, [], []⟩
abbrev s__law_draw : Stmt := top 19
theorem sc__law_draw : FnScope ["_law_pool_here", "_law_many", "_law_found"] ["_law_pool_here", "_law_many"] (defScope s__law_draw) := ⟨rfl, rfl, rfl, by decide +kernel, rfl, by decide +kernel, by decide +kernel⟩
def d__law_draw : He.DefD := ⟨("_law_draw", none), "_law_draw", "_law_draw", defArgs s__law_draw, defBody s__law_draw, defScope s__law_draw, [], []⟩
abbrev s__law_pick : Stmt := top 20
theorem sc__law_pick : FnScope ["_law_pool_here", "_law_row"] ["_law_pool_here", "_law_row"] (defScope s__law_pick) := ⟨rfl, rfl, rfl, by decide +kernel, rfl, by decide +kernel, by decide +kernel⟩
def d__law_pick : He.DefD := ⟨("_law_pick", none), "_law_pick", "_law_pick", defArgs s__law_pick, defBody s__law_pick, defScope s__law_pick, [], []⟩
abbrev s__law_value : Stmt := top 21
theorem sc__law_value : FnScope ["_law_pool_here", "_law_most"] ["_law_pool_here", "_law_most"] (defScope s__law_value) := ⟨rfl, rfl, rfl, by decide +kernel, rfl, by decide +kernel, by decide +kernel⟩
def d__law_value : He.DefD := ⟨("_law_value", none), "_law_value", "_law_value", defArgs s__law_value, defBody s__law_value, defScope s__law_value, [], []⟩
abbrev s__law_told : Stmt := top 22
theorem sc__law_told : FnScope ["_law_some", "_law_name", "_law_top", "_law_given", "_law_seat", "e"] ["_law_some"] (defScope s__law_told) := ⟨rfl, rfl, rfl, by decide +kernel, rfl, by decide +kernel, by decide +kernel⟩
def d__law_told : He.DefD := ⟨("_law_told", none), "_law_told", "_law_told", defArgs s__law_told, defBody s__law_told, defScope s__law_told, [], []⟩
abbrev s__law_changed : Stmt := top 23
theorem sc__law_changed : FnScope ["_law_one", "_law_part", "_law_value_here", "e"] ["_law_one", "_law_part", "_law_value_here"] (defScope s__law_changed) := ⟨rfl, rfl, rfl, by decide +kernel, rfl, by decide +kernel, by decide +kernel⟩
def d__law_changed : He.DefD := ⟨("_law_changed", none), "_law_changed", "_law_changed", defArgs s__law_changed, defBody s__law_changed, defScope s__law_changed, [], []⟩
abbrev s_law : Stmt := top 24
theorem sc_law : FnScope ["_law_script", "_law_k", "_law_pool_here", "_law_name", "_law_top", "_law_given", "_law_seat", "_law_one", "_law_odd", "_law_part", "_law_value_here", "_law_parts", "_law_is_same", "_law_other", "_law_odds", "_law_at", "_law_some"] ["_law_script"] (defScope s_law) := ⟨rfl, rfl, rfl, by decide +kernel, rfl, by decide +kernel, by decide +kernel⟩
def d_law : He.DefD := ⟨("law", none), "law", "law", defArgs s_law, defBody s_law, defScope s_law, [], []⟩
def fn0 : List He.DefD := [d_BadPart___init__, d_is_whole, d_is_word, d_is_name, d_is_greatest, d_is_value, d_is_within, d_values_to, d_Column___init__, d_Column___eq__, d_Column___contains__, d_Column_all_values, d_Column_changed, d__law_pool, d__law_draw, d__law_pick, d__law_value, d__law_told, d__law_changed, d_law]
def fa0 : List He.Fa := [.glo "is_whole", .glo "is_word", .glo "is_name", .glo "is_greatest", .glo "is_value", .glo "is_within", .glo "values_to", .glo "_law_pool", .glo "_law_draw", .glo "_law_pick", .glo "_law_value", .glo "_law_told", .glo "_law_changed", .glo "law", .glo "BadPart", .glo "Column", .cls "Column", .mkr "Column", .noat "Column" "name", .noat "Column" "greatest", .noat "Column" "default", .noat "Column" "number", .meth "Column" "__eq__", .meth "Column" "__contains__", .meth "Column" "all_values", .meth "Column" "changed", .str "LETTERS" "abcdefghijklmnopqrstuvwxyz", .int "LONGEST_NAME" 8, .int "MOST_GREATEST" 99, .glo "PARTS", .free "isinstance", .free "int", .free "bool", .free "str", .free "all", .free "len", .free "list", .free "range", .free "max", .free "repr", .free "min"]
def fnl : List He.DefD := fn0
def fal : List He.Fa := fa0
def exl (K : PySem.W.Frag) : Bool := [He.tupB K "PARTS" [(.str "name"), (.str "greatest"), (.str "default"), (.str "number")], oexB K "BadPart" "part", insB K "Column", neB K "Column", ninB K "Column"].all id
structure Tx (K : PySem.W.Frag) (mg : Str → Option Value) : Prop where
  c : He.SaysD fal fnl K
  e : exl K = true
  h : ∃ h : Heap, K.In h ∧ h.Ns mainGlobals mg
section
variable {K : PySem.W.Frag} {mg : Str → Option Value}
theorem mg_is_whole (T : Tx K mg) : mg "is_whole" = some (.ref (He.ga K "is_whole")) := by
  obtain ⟨h, X, G⟩ := T.h
  exact He.glo_ok X G (T.c.fact 0 rfl)
theorem mg_is_word (T : Tx K mg) : mg "is_word" = some (.ref (He.ga K "is_word")) := by
  obtain ⟨h, X, G⟩ := T.h
  exact He.glo_ok X G (T.c.fact 1 rfl)
theorem mg_is_name (T : Tx K mg) : mg "is_name" = some (.ref (He.ga K "is_name")) := by
  obtain ⟨h, X, G⟩ := T.h
  exact He.glo_ok X G (T.c.fact 2 rfl)
theorem mg_is_greatest (T : Tx K mg) : mg "is_greatest" = some (.ref (He.ga K "is_greatest")) := by
  obtain ⟨h, X, G⟩ := T.h
  exact He.glo_ok X G (T.c.fact 3 rfl)
theorem mg_is_value (T : Tx K mg) : mg "is_value" = some (.ref (He.ga K "is_value")) := by
  obtain ⟨h, X, G⟩ := T.h
  exact He.glo_ok X G (T.c.fact 4 rfl)
theorem mg_is_within (T : Tx K mg) : mg "is_within" = some (.ref (He.ga K "is_within")) := by
  obtain ⟨h, X, G⟩ := T.h
  exact He.glo_ok X G (T.c.fact 5 rfl)
theorem mg_values_to (T : Tx K mg) : mg "values_to" = some (.ref (He.ga K "values_to")) := by
  obtain ⟨h, X, G⟩ := T.h
  exact He.glo_ok X G (T.c.fact 6 rfl)
theorem mg__law_pool (T : Tx K mg) : mg "_law_pool" = some (.ref (He.ga K "_law_pool")) := by
  obtain ⟨h, X, G⟩ := T.h
  exact He.glo_ok X G (T.c.fact 7 rfl)
theorem mg__law_draw (T : Tx K mg) : mg "_law_draw" = some (.ref (He.ga K "_law_draw")) := by
  obtain ⟨h, X, G⟩ := T.h
  exact He.glo_ok X G (T.c.fact 8 rfl)
theorem mg__law_pick (T : Tx K mg) : mg "_law_pick" = some (.ref (He.ga K "_law_pick")) := by
  obtain ⟨h, X, G⟩ := T.h
  exact He.glo_ok X G (T.c.fact 9 rfl)
theorem mg__law_value (T : Tx K mg) : mg "_law_value" = some (.ref (He.ga K "_law_value")) := by
  obtain ⟨h, X, G⟩ := T.h
  exact He.glo_ok X G (T.c.fact 10 rfl)
theorem mg__law_told (T : Tx K mg) : mg "_law_told" = some (.ref (He.ga K "_law_told")) := by
  obtain ⟨h, X, G⟩ := T.h
  exact He.glo_ok X G (T.c.fact 11 rfl)
theorem mg__law_changed (T : Tx K mg) : mg "_law_changed" = some (.ref (He.ga K "_law_changed")) := by
  obtain ⟨h, X, G⟩ := T.h
  exact He.glo_ok X G (T.c.fact 12 rfl)
theorem mg_law (T : Tx K mg) : mg "law" = some (.ref (He.ga K "law")) := by
  obtain ⟨h, X, G⟩ := T.h
  exact He.glo_ok X G (T.c.fact 13 rfl)
theorem mg_BadPart (T : Tx K mg) : mg "BadPart" = some (.ref (He.ga K "BadPart")) := by
  obtain ⟨h, X, G⟩ := T.h
  exact He.glo_ok X G (T.c.fact 14 rfl)
theorem mg_Column (T : Tx K mg) : mg "Column" = some (.ref (He.ga K "Column")) := by
  obtain ⟨h, X, G⟩ := T.h
  exact He.glo_ok X G (T.c.fact 15 rfl)
theorem cl_Column (T : Tx K mg) : Cls K (He.ga K "Column") := He.cls_ok (T.c.fact 16 rfl)
theorem mk_Column (T : Tx K mg) : Mk K (He.ga K "Column") (He.ma K (He.ga K "Column") "__init__") := He.mkr_ok (T.c.fact 17 rfl)
theorem na_Column_name (T : Tx K mg) : NoAttr K (He.ga K "Column") "name" := He.noat_ok (T.c.fact 18 rfl)
theorem na_Column_greatest (T : Tx K mg) : NoAttr K (He.ga K "Column") "greatest" := He.noat_ok (T.c.fact 19 rfl)
theorem na_Column_default (T : Tx K mg) : NoAttr K (He.ga K "Column") "default" := He.noat_ok (T.c.fact 20 rfl)
theorem na_Column_number (T : Tx K mg) : NoAttr K (He.ga K "Column") "number" := He.noat_ok (T.c.fact 21 rfl)
theorem me_Column___eq__ (T : Tx K mg) : Meth K (He.ga K "Column") "__eq__" (He.ma K (He.ga K "Column") "__eq__") := He.meth_ok (T.c.fact 22 rfl)
theorem me_Column___contains__ (T : Tx K mg) : Meth K (He.ga K "Column") "__contains__" (He.ma K (He.ga K "Column") "__contains__") := He.meth_ok (T.c.fact 23 rfl)
theorem me_Column_all_values (T : Tx K mg) : Meth K (He.ga K "Column") "all_values" (He.ma K (He.ga K "Column") "all_values") := He.meth_ok (T.c.fact 24 rfl)
theorem me_Column_changed (T : Tx K mg) : Meth K (He.ga K "Column") "changed" (He.ma K (He.ga K "Column") "changed") := He.meth_ok (T.c.fact 25 rfl)
theorem ms_LETTERS (T : Tx K mg) : ∃ t, mg "LETTERS" = some (.str "abcdefghijklmnopqrstuvwxyz" t) := by
  obtain ⟨h, X, G⟩ := T.h
  exact He.str_ok X G (T.c.fact 26 rfl)
theorem mi_LONGEST_NAME (T : Tx K mg) : ∃ t, mg "LONGEST_NAME" = some (.int 8 t) := by
  obtain ⟨h, X, G⟩ := T.h
  exact He.int_ok X G (T.c.fact 27 rfl)
theorem mi_MOST_GREATEST (T : Tx K mg) : ∃ t, mg "MOST_GREATEST" = some (.int 99 t) := by
  obtain ⟨h, X, G⟩ := T.h
  exact He.int_ok X G (T.c.fact 28 rfl)
theorem mg_PARTS (T : Tx K mg) : mg "PARTS" = some (.ref (He.ga K "PARTS")) := by
  obtain ⟨h, X, G⟩ := T.h
  exact He.glo_ok X G (T.c.fact 29 rfl)
theorem fr_isinstance (T : Tx K mg) : mg "isinstance" = none := by
  obtain ⟨h, X, G⟩ := T.h
  exact He.free_ok X G (T.c.fact 30 rfl)
theorem fr_int (T : Tx K mg) : mg "int" = none := by
  obtain ⟨h, X, G⟩ := T.h
  exact He.free_ok X G (T.c.fact 31 rfl)
theorem fr_bool (T : Tx K mg) : mg "bool" = none := by
  obtain ⟨h, X, G⟩ := T.h
  exact He.free_ok X G (T.c.fact 32 rfl)
theorem fr_str (T : Tx K mg) : mg "str" = none := by
  obtain ⟨h, X, G⟩ := T.h
  exact He.free_ok X G (T.c.fact 33 rfl)
theorem fr_all (T : Tx K mg) : mg "all" = none := by
  obtain ⟨h, X, G⟩ := T.h
  exact He.free_ok X G (T.c.fact 34 rfl)
theorem fr_len (T : Tx K mg) : mg "len" = none := by
  obtain ⟨h, X, G⟩ := T.h
  exact He.free_ok X G (T.c.fact 35 rfl)
theorem fr_list (T : Tx K mg) : mg "list" = none := by
  obtain ⟨h, X, G⟩ := T.h
  exact He.free_ok X G (T.c.fact 36 rfl)
theorem fr_range (T : Tx K mg) : mg "range" = none := by
  obtain ⟨h, X, G⟩ := T.h
  exact He.free_ok X G (T.c.fact 37 rfl)
theorem fr_max (T : Tx K mg) : mg "max" = none := by
  obtain ⟨h, X, G⟩ := T.h
  exact He.free_ok X G (T.c.fact 38 rfl)
theorem fr_repr (T : Tx K mg) : mg "repr" = none := by
  obtain ⟨h, X, G⟩ := T.h
  exact He.free_ok X G (T.c.fact 39 rfl)
theorem fr_min (T : Tx K mg) : mg "min" = none := by
  obtain ⟨h, X, G⟩ := T.h
  exact He.free_ok X G (T.c.fact 40 rfl)
theorem fd_BadPart___init__ (T : Tx K mg) : ∃ fd, FunD K "__init__" "BadPart.__init__" (defArgs s_BadPart___init__) (defBody s_BadPart___init__) (defScope s_BadPart___init__) (d_BadPart___init__.dvs K) (d_BadPart___init__.kws K) (He.ma K (He.ga K "BadPart") "__init__") fd := T.c.def_ 0 (d := d_BadPart___init__) rfl
theorem fd_is_whole (T : Tx K mg) : ∃ fd, FunD K "is_whole" "is_whole" (defArgs s_is_whole) (defBody s_is_whole) (defScope s_is_whole) (d_is_whole.dvs K) (d_is_whole.kws K) (He.ga K "is_whole") fd := T.c.def_ 1 (d := d_is_whole) rfl
theorem fd_is_word (T : Tx K mg) : ∃ fd, FunD K "is_word" "is_word" (defArgs s_is_word) (defBody s_is_word) (defScope s_is_word) (d_is_word.dvs K) (d_is_word.kws K) (He.ga K "is_word") fd := T.c.def_ 2 (d := d_is_word) rfl
theorem fd_is_name (T : Tx K mg) : ∃ fd, FunD K "is_name" "is_name" (defArgs s_is_name) (defBody s_is_name) (defScope s_is_name) (d_is_name.dvs K) (d_is_name.kws K) (He.ga K "is_name") fd := T.c.def_ 3 (d := d_is_name) rfl
theorem fd_is_greatest (T : Tx K mg) : ∃ fd, FunD K "is_greatest" "is_greatest" (defArgs s_is_greatest) (defBody s_is_greatest) (defScope s_is_greatest) (d_is_greatest.dvs K) (d_is_greatest.kws K) (He.ga K "is_greatest") fd := T.c.def_ 4 (d := d_is_greatest) rfl
theorem fd_is_value (T : Tx K mg) : ∃ fd, FunD K "is_value" "is_value" (defArgs s_is_value) (defBody s_is_value) (defScope s_is_value) (d_is_value.dvs K) (d_is_value.kws K) (He.ga K "is_value") fd := T.c.def_ 5 (d := d_is_value) rfl
theorem fd_is_within (T : Tx K mg) : ∃ fd, FunD K "is_within" "is_within" (defArgs s_is_within) (defBody s_is_within) (defScope s_is_within) (d_is_within.dvs K) (d_is_within.kws K) (He.ga K "is_within") fd := T.c.def_ 6 (d := d_is_within) rfl
theorem fd_values_to (T : Tx K mg) : ∃ fd, FunD K "values_to" "values_to" (defArgs s_values_to) (defBody s_values_to) (defScope s_values_to) (d_values_to.dvs K) (d_values_to.kws K) (He.ga K "values_to") fd := T.c.def_ 7 (d := d_values_to) rfl
theorem fd_Column___init__ (T : Tx K mg) : ∃ fd, FunD K "__init__" "Column.__init__" (defArgs s_Column___init__) (defBody s_Column___init__) (defScope s_Column___init__) (d_Column___init__.dvs K) (d_Column___init__.kws K) (He.ma K (He.ga K "Column") "__init__") fd := T.c.def_ 8 (d := d_Column___init__) rfl
theorem fd_Column___eq__ (T : Tx K mg) : ∃ fd, FunD K "__eq__" "Column.__eq__" (defArgs s_Column___eq__) (defBody s_Column___eq__) (defScope s_Column___eq__) (d_Column___eq__.dvs K) (d_Column___eq__.kws K) (He.ma K (He.ga K "Column") "__eq__") fd := T.c.def_ 9 (d := d_Column___eq__) rfl
theorem fd_Column___contains__ (T : Tx K mg) : ∃ fd, FunD K "__contains__" "Column.__contains__" (defArgs s_Column___contains__) (defBody s_Column___contains__) (defScope s_Column___contains__) (d_Column___contains__.dvs K) (d_Column___contains__.kws K) (He.ma K (He.ga K "Column") "__contains__") fd := T.c.def_ 10 (d := d_Column___contains__) rfl
theorem fd_Column_all_values (T : Tx K mg) : ∃ fd, FunD K "all_values" "Column.all_values" (defArgs s_Column_all_values) (defBody s_Column_all_values) (defScope s_Column_all_values) (d_Column_all_values.dvs K) (d_Column_all_values.kws K) (He.ma K (He.ga K "Column") "all_values") fd := T.c.def_ 11 (d := d_Column_all_values) rfl
theorem fd_Column_changed (T : Tx K mg) : ∃ fd, FunD K "changed" "Column.changed" (defArgs s_Column_changed) (defBody s_Column_changed) (defScope s_Column_changed) (d_Column_changed.dvs K) (d_Column_changed.kws K) (He.ma K (He.ga K "Column") "changed") fd := T.c.def_ 12 (d := d_Column_changed) rfl
theorem fd__law_pool (T : Tx K mg) : ∃ fd, FunD K "_law_pool" "_law_pool" (defArgs s__law_pool) (defBody s__law_pool) (defScope s__law_pool) (d__law_pool.dvs K) (d__law_pool.kws K) (He.ga K "_law_pool") fd := T.c.def_ 13 (d := d__law_pool) rfl
theorem fd__law_draw (T : Tx K mg) : ∃ fd, FunD K "_law_draw" "_law_draw" (defArgs s__law_draw) (defBody s__law_draw) (defScope s__law_draw) (d__law_draw.dvs K) (d__law_draw.kws K) (He.ga K "_law_draw") fd := T.c.def_ 14 (d := d__law_draw) rfl
theorem fd__law_pick (T : Tx K mg) : ∃ fd, FunD K "_law_pick" "_law_pick" (defArgs s__law_pick) (defBody s__law_pick) (defScope s__law_pick) (d__law_pick.dvs K) (d__law_pick.kws K) (He.ga K "_law_pick") fd := T.c.def_ 15 (d := d__law_pick) rfl
theorem fd__law_value (T : Tx K mg) : ∃ fd, FunD K "_law_value" "_law_value" (defArgs s__law_value) (defBody s__law_value) (defScope s__law_value) (d__law_value.dvs K) (d__law_value.kws K) (He.ga K "_law_value") fd := T.c.def_ 16 (d := d__law_value) rfl
theorem fd__law_told (T : Tx K mg) : ∃ fd, FunD K "_law_told" "_law_told" (defArgs s__law_told) (defBody s__law_told) (defScope s__law_told) (d__law_told.dvs K) (d__law_told.kws K) (He.ga K "_law_told") fd := T.c.def_ 17 (d := d__law_told) rfl
theorem fd__law_changed (T : Tx K mg) : ∃ fd, FunD K "_law_changed" "_law_changed" (defArgs s__law_changed) (defBody s__law_changed) (defScope s__law_changed) (d__law_changed.dvs K) (d__law_changed.kws K) (He.ga K "_law_changed") fd := T.c.def_ 18 (d := d__law_changed) rfl
theorem fd_law (T : Tx K mg) : ∃ fd, FunD K "law" "law" (defArgs s_law) (defBody s_law) (defScope s_law) (d_law.dvs K) (d_law.kws K) (He.ga K "law") fd := T.c.def_ 19 (d := d_law) rfl
theorem ex_PARTS (T : Tx K mg) : He.tupB K "PARTS" [(.str "name"), (.str "greatest"), (.str "default"), (.str "number")] = true := List.all_eq_true.mp T.e _ (List.mem_of_getElem? (i := 0) rfl)
theorem ex_BadPart_x (T : Tx K mg) : oexB K "BadPart" "part" = true := List.all_eq_true.mp T.e _ (List.mem_of_getElem? (i := 1) rfl)
theorem ex_Column (T : Tx K mg) : insB K "Column" = true := List.all_eq_true.mp T.e _ (List.mem_of_getElem? (i := 2) rfl)
theorem ex_Column_ne (T : Tx K mg) : neB K "Column" = true := List.all_eq_true.mp T.e _ (List.mem_of_getElem? (i := 3) rfl)
theorem ex_Column_nin (T : Tx K mg) : ninB K "Column" = true := List.all_eq_true.mp T.e _ (List.mem_of_getElem? (i := 4) rfl)
end
/-! ### the head and the end -/
abbrev RowR : PySem.W.OpenRow := PySem.W.OpenLaw.row PySem.Challenge.rw_editionrows_k02_columns
abbrev hkR : PySem.W.Hook := hookP 5 fal fnl exl
def obR (s : PySem.W.SharedT) : AlP := obsP 5 fal fnl exl (HandSHeadRun.getT s)
theorem obR_eq (s : PySem.W.SharedT) : obR s = hkR.obs s.abs := obsP_eq (HandSHeadRun.getT_eq s)
abbrev looseR : List PySem.Str := ((["TableError", "BadPart", "LETTERS", "LONGEST_NAME", "MOST_GREATEST", "is_whole", "is_word", "is_name", "is_greatest", "is_value", "is_within", "values_to", "PARTS", "Column", "_law_pool", "_law_draw", "_law_pick", "_law_value", "_law_told", "_law_changed"] : List PySem.Str))
theorem runL (w : World) : ∀ os : PySem.OsState, (HandSHeadRun.endF (HandSHeadRun.stepQ (HandSHeadRun.denQ HandSHeadRun.tabQ) RowR.prog w) 6000 RowR.prog w os).map (fun s => (HandSHeadRun.looksF RowR.prog (PySem.W.boot_heap w.params) s.abs, HandSHeadRun.seenQ (PySem.W.view RowR.prog [24]) looseR (PySem.importedModules RowR.prog.main.body) (fun s => PySem.W.xlAt (PySem.W.view RowR.prog [24]) [] s && PySem.W.recOk RowR.toRowW.records s) s.abs)) = some (true, PySem.W.openGood (PySem.W.view RowR.prog [24]) looseR) := by
  intro os
  kernel_rfl
theorem runO0 (w : World) : ∀ os : PySem.OsState, (HandSHeadRun.endF (HandSHeadRun.stepQ (HandSHeadRun.denQ HandSHeadRun.tabQ) RowR.prog w) 6000 RowR.prog w os).map (fun s => obsP 5 fa0 fn0 exl (HandSHeadRun.getT s)) = some (valP fn0) := by
  intro os
  kernel_rfl
theorem obs_two {n : Nat} {fa fb : List He.Fa} {fn gn : List He.DefD} {ex ey : PySem.W.Frag → Bool} {g : Addr → Option Obj} (h1 : obsP n fa fn ex g = valP fn) (h2 : obsP n fb gn ey g = valP gn) : obsP n (fa ++ fb) (fn ++ gn) ex g = valP (fn ++ gn) := by
  have a1 : ((fa.all fun f => f.ok (He.frG g (asW g n))) && fn.all fun d => d.ok (He.frG g (asW g n))) = true := congrArg (fun z : AlP => z.1.1) h1
  have a2 : fn.map (fun d => He.fnW (He.frG g (asW g n)) d.at_) = fn.map He.DefD.val := (congrArg (fun z : AlP => z.1.2) h1).trans (mapV_eq fn)
  have a3 : ex (He.frG g (asW g n)) = true := congrArg (fun z : AlP => z.2) h1
  have b1 : ((fb.all fun f => f.ok (He.frG g (asW g n))) && gn.all fun d => d.ok (He.frG g (asW g n))) = true := congrArg (fun z : AlP => z.1.1) h2
  have b2 : gn.map (fun d => He.fnW (He.frG g (asW g n)) d.at_) = gn.map He.DefD.val := (congrArg (fun z : AlP => z.1.2) h2).trans (mapV_eq gn)
  rw [valP_eq]
  rw [Bool.and_eq_true] at a1 b1
  show ((((fa ++ fb).all fun f => f.ok (He.frG g (asW g n))) && (fn ++ gn).all fun d => d.ok (He.frG g (asW g n)), (fn ++ gn).map fun d => He.fnW (He.frG g (asW g n)) d.at_), ex (He.frG g (asW g n))) = ((true, (fn ++ gn).map He.DefD.val), true)
  rw [List.all_append, List.all_append, a1.1, a1.2, b1.1, b1.2, List.map_append, a2, b2, List.map_append, a3]
  rfl
theorem join_run {S A B C : Type} {o : Option S} {f : S → A} {g : S → B} {h : S → C} {a : A} {b : B} {c : C} (e1 : o.map (fun s => (f s, g s)) = some (a, b)) (e2 : o.map h = some c) : o.map (fun s => (f s, g s, h s)) = some (a, b, c) := by
  cases o with
  | none => cases e1
  | some s =>
    have l : (f s, g s) = (a, b) := Option.some.inj e1
    have l1 : f s = a := congrArg Prod.fst l
    have l2 : g s = b := congrArg Prod.snd l
    have r : h s = c := Option.some.inj e2
    show some (f s, g s, h s) = some (a, b, c)
    rw [l1, l2, r]
theorem join_obs {n : Nat} {fa fb : List He.Fa} {fn gn : List He.DefD} {ex ey : PySem.W.Frag → Bool} {o : Option PySem.W.SharedT} (e1 : o.map (fun s => obsP n fa fn ex (HandSHeadRun.getT s)) = some (valP fn)) (e2 : o.map (fun s => obsP n fb gn ey (HandSHeadRun.getT s)) = some (valP gn)) :
    o.map (fun s => obsP n (fa ++ fb) (fn ++ gn) ex (HandSHeadRun.getT s)) = some (valP (fn ++ gn)) := by
  cases o with
  | none => cases e1
  | some s => exact congrArg some (obs_two (Option.some.inj e1) (Option.some.inj e2))
theorem runR (w : World) : HandSHeadRun.RunEq RowR (PySem.W.view RowR.prog [24]) hkR obR 6000 looseR w := fun os => join_run (runL w os) (runO0 w os)
section
variable {P : Program} {w : World} {K : PySem.W.Frag} {mg : Str → Option Value} {base : Heap}
/-! is_whole -/
def sp_is_whole (K : PySem.W.Frag) : Sp := fun vs H Q _ => ∃ (x : V) (t : String), vs = [x] ∧ TyX K H x (.type t) ∧ Q (.bl (isI x)) H
theorem ok_is_whole (T : Tx K mg) : Callee P w K mg base CX0 1 "is_whole" ["value"] [] (sp_is_whole K) := by
  refine mkCallee (fd_is_whole T) (mg_is_whole T) sc_is_whole (fun _ _ _ _ _ _ us hl => match us, hl with | [_], _ => rfl) (fun vs H Q E h => ?_) (fun cdv A outer s H vs Q E hr h => ?_)
  · obtain ⟨x, t, rfl, _⟩ := h
    rfl
  · obtain ⟨x, t, rfl, ty, k⟩ := h
    obtain ⟨ba, bb, e1, e2, e3⟩ := kit_whole ty
    refine ⟨_, pss_one (ps_ret (pe_and (pe_callB call_isi (by rfl) (fr_isinstance T) (by decide +kernel) (pa_cons (pv 0) (pa_cons (pe_bltn (v := .ty "int") (by rfl) (fr_int T) (by decide +kernel) rfl) pa_nil)))
      (pe_one (pe_not (pe_callB call_isi (by rfl) (fr_isinstance T) (by decide +kernel) (pa_cons (pv 0) (pa_cons (pe_bltn (v := .ty "bool") (by rfl) (fr_bool T) (by decide +kernel) rfl) pa_nil))))))), ?_⟩
    refine ⟨x, rfl, x, .ty "int", _, _, ba, rfl, .ty "int", ty, kit_ty e1, ba, rfl, ?_⟩
    cases ba with
    | false =>
      refine iteF ?_
      rw [← e3] at k
      exact k
    | true =>
      refine iteT ⟨x, rfl, x, .ty "bool", _, _, bb, rfl, .ty "bool", ty, kit_ty e2, bb, rfl, ?_⟩
      rw [← e3] at k
      exact k
/-! is_word, of any value and a tuple of words -/
def wordV (x : V) (xs : List V) : Bool := match x with
  | .str z => inV (.str z) xs
  | _ => false
theorem kit_strW {K : PySem.W.Frag} {H : Hp} {x : V} {t : String} (ty : TyX K H x (.type t)) : ∃ a : Bool, kitB t "str" = some a ∧ ((a = true ∧ ∃ z, x = .str z) ∨ (a = false ∧ ∀ xs, wordV x xs = false)) := by
  cases ty with
  | base h =>
    cases h with
    | str z => exact ⟨true, by decide +kernel, .inl ⟨rfl, z, rfl⟩⟩
    | _ => exact ⟨false, by decide +kernel, .inr ⟨rfl, fun _ => rfl⟩⟩
  | _ => exact ⟨false, by decide +kernel, .inr ⟨rfl, fun _ => rfl⟩⟩
def sp_is_word (K : PySem.W.Frag) : Sp := fun vs H Q _ => ∃ (x : V) (t : String) (p : Addr) (xs : List V), vs = [x, .ref p] ∧ TyX K H x (.type t) ∧ SqT K H p xs ∧ xs.all flatV = true ∧ Q (.bl (wordV x xs)) H
theorem ok_is_word (T : Tx K mg) : Callee P w K mg base CX0 1 "is_word" ["value", "words"] [] (sp_is_word K) := by
  refine mkCallee (fd_is_word T) (mg_is_word T) sc_is_word (fun _ _ _ _ _ _ us hl => match us, hl with | [_, _], _ => rfl) (fun vs H Q E h => ?_) (fun cdv A outer s H vs Q E hr h => ?_)
  · obtain ⟨x, t, p, xs, rfl, _⟩ := h
    rfl
  · obtain ⟨x, t, p, xs, rfl, ty, hp, hf, k⟩ := h
    obtain ⟨a, e1, e2⟩ := kit_strW ty
    refine ⟨_, pss_one (ps_ret (pe_and (pe_callB call_isi (by rfl) (fr_isinstance T) (by decide +kernel) (pa_cons (pv 0) (pa_cons (pe_bltn (v := .ty "str") (by rfl) (fr_str T) (by decide +kernel) rfl) pa_nil)))
      (pe_one (pe_cmpR op_in_seq (pv 0) (pv 1) (by rfl))))), ?_⟩
    refine ⟨x, rfl, x, .ty "str", _, _, a, rfl, .ty "str", ty, kit_ty e1, a, rfl, ?_⟩
    rcases e2 with ⟨rfl, z, rfl⟩ | ⟨rfl, e⟩
    · exact iteT ⟨_, rfl, _, rfl, p, xs, rfl, .inr hp, rfl, hf, k⟩
    · rw [e xs] at k
      exact k
/-! is_name -/
def letters : Str := "abcdefghijklmnopqrstuvwxyz"
def isNm : V → Bool
  | .str n => decide (1 ≤ n.length) && (decide (n.length ≤ 8) && n.cps.toList.all fun c => decide (c ∈ letters.cps.toList))
  | _ => false
def sp_is_name (K : PySem.W.Frag) : Sp := fun vs H Q _ => ∃ (x : V) (t : String), vs = [x] ∧ TyX K H x (.type t) ∧ (∀ n, x = .str n → n.length ≤ 1000) ∧ ∀ H', Same H H' → Q (.bl (isNm x)) H'
theorem kit_str2 {K : PySem.W.Frag} {H : Hp} {x : V} {t : String} (ty : TyX K H x (.type t)) : ∃ a : Bool, kitB t "str" = some a ∧ ((a = true ∧ ∃ z, x = .str z) ∨ (a = false ∧ ∀ z, x ≠ .str z)) := by
  cases ty with
  | base h =>
    cases h with
    | str z => exact ⟨true, by decide +kernel, .inl ⟨rfl, z, rfl⟩⟩
    | _ => exact ⟨false, by decide +kernel, .inr ⟨rfl, fun z h => by cases h⟩⟩
  | _ => exact ⟨false, by decide +kernel, .inr ⟨rfl, fun z h => by cases h⟩⟩
theorem ok_is_name (T : Tx K mg) : Callee P w K mg base CX0 1 "is_name" ["value"] [] (sp_is_name K) := by
  refine mkCallee (fd_is_name T) (mg_is_name T) sc_is_name (fun _ _ _ _ _ _ us hl => match us, hl with | [_], _ => rfl) (fun vs H Q E h => ?_) (fun cdv A outer s H vs Q E hr h => ?_)
  · obtain ⟨x, t, rfl, _⟩ := h
    rfl
  · obtain ⟨x, t, rfl, ty, hlen, k⟩ := h
    obtain ⟨tk, gL⟩ := ms_LETTERS T
    obtain ⟨tk2, gN⟩ := mi_LONGEST_NAME T
    obtain ⟨a, e1, e2⟩ := kit_str2 ty
    have nd := sc_is_name.nd
    refine ⟨_, pss_cons (ps_if (PW.pt (pw_or (pt_not (pt_val (pe_callB call_isi (by rfl) (fr_isinstance T) (by decide +kernel) (pa_cons (pv 0) (pa_cons (pe_bltn (v := .ty "str") (by rfl) (fr_str T) (by decide +kernel) rfl) pa_nil)))))
        (pw_or1 (pt_not (pt_chain op_le op_le pe_int (pe_callB call_len_str (by rfl) (fr_len T) PySem.boot_len (pa_cons (pv 0) pa_nil)) (pe_glob (v := .int 8) (by rfl) gN ⟨_, rfl⟩)))))) (pss_one (ps_ret pe_bl)) pss_nil)
      (pss_one (ps_ret (pe_callB (cr_all rfl) (by rfl) (fr_all T) (by decide +kernel) (pa_cons (pe_lc (own := [("letter", 1)]) (g := gName 1) (tt := tYes) rfl nd (pi_str (pv 0)) (blkOk_by (N := ["value", "letter"]) (sc := defScope s_is_name) (by decide +kernel))
        (fun _ _ _ _ _ => pg_name (i := 1) nd rfl (Or.inl rfl)) (fun _ _ _ _ _ => pts_nil) (fun _ _ _ _ _ => pe_cmpR op_in_sign (pv 1) (pe_glob (v := .str letters) (by rfl) gL ⟨_, rfl⟩) (by rfl))) pa_nil)))), ?_⟩
    refine ⟨x, rfl, x, .ty "str", _, _, a, rfl, .ty "str", ty, kit_ty e1, _, rfl, ?_⟩
    rcases e2 with ⟨rfl, z, rfl⟩ | ⟨rfl, hz⟩
    · have hl := hlen z rfl
      refine iteF ⟨_, rfl, z, rfl, Nat.le_trans hl (by decide), _, _, rfl, rfl, decide ((1 : Int) ≤ (z.length : Int)), rfl, ?_⟩
      have e0 : isNm (.str z) = (decide ((1 : Int) ≤ (z.length : Int)) && (decide ((z.length : Int) ≤ 8) && z.cps.toList.all fun c => decide (c ∈ letters.cps.toList))) := by
        have a1 : decide (1 ≤ z.length) = decide ((1 : Int) ≤ (z.length : Int)) := by
          rw [decide_eq_decide]
          omega
        have a2 : decide (z.length ≤ 8) = decide ((z.length : Int) ≤ 8) := by
          rw [decide_eq_decide]
          omega
        show (decide (1 ≤ z.length) && (decide (z.length ≤ 8) && _)) = _
        rw [a1, a2]
      cases h1 : decide ((1 : Int) ≤ (z.length : Int)) with
      | false =>
        have e9 : isNm (.str z) = false := by
          rw [e0, h1]
          rfl
        rw [e9] at k
        exact iteF ⟨false, rfl, iteT (k H (Same.refl _))⟩
      | true =>
        refine iteT ⟨_, _, rfl, rfl, decide ((z.length : Int) ≤ 8), rfl, ?_⟩
        rw [h1] at e0
        cases h2 : decide ((z.length : Int) ≤ 8) with
        | false =>
          have e9 : isNm (.str z) = false := by
            rw [e0, h2]
            rfl
          rw [e9] at k
          exact iteT (k H (Same.refl _))
        | true =>
          rw [h2, Bool.true_and, Bool.true_and] at e0
          rw [e0] at k
          refine iteF (nxt ?_)
          dsimp only
          refine pl_r1 (tlc_S (fun c => .bl (decide (c ∈ letters.cps.toList))) z ?_ ?_ ?_ ?_ ?_)
          · exact fun R r => ⟨_, rfl, r⟩
          · exact Nat.le_trans hl (by decide)
          · exact fun x => rfl
          · exact fun c hc H' s' R r => ⟨_, rfl, c, letters, rfl, rfl, r H' (Same.refl _)⟩
          · intro D H' hD sD hD2
            refine ⟨D, z.cps.toList.map fun c => decide (c ∈ letters.cps.toList), rfl, sqL_of (by rw [List.map_map]; exact hD2), ?_⟩
            rw [List.all_map]
            exact k H' sD
    · have e0 : isNm x = false := by
        cases x with
        | str z => exact absurd rfl (hz z)
        | _ => rfl
      rw [e0] at k
      exact k H (Same.refl _)
/-! is_greatest -/
def isGr : V → Bool
  | .int i => decide (1 ≤ i) && decide (i ≤ 99)
  | _ => false
def sp_is_greatest (K : PySem.W.Frag) : Sp := fun vs H Q _ => ∃ (x : V) (t : String), vs = [x] ∧ TyX K H x (.type t) ∧ Q (.bl (isGr x)) H
theorem ok_is_greatest (T : Tx K mg) : Callee P w K mg base CX0 2 "is_greatest" ["value"] [] (sp_is_greatest K) := by
  have C1 := ok_is_whole (P := P) (w := w) (base := base) T
  refine mkCallee (fd_is_greatest T) (mg_is_greatest T) sc_is_greatest (fun _ _ _ _ _ _ us hl => match us, hl with | [_], _ => rfl) (fun vs H Q E h => ?_) (fun cdv A outer s H vs Q E hr h => ?_)
  · obtain ⟨x, t, rfl, _⟩ := h
    rfl
  · obtain ⟨x, t, rfl, ty, k⟩ := h
    obtain ⟨tk, gM⟩ := mi_MOST_GREATEST T
    refine ⟨_, pss_one (ps_ret (pe_and (pcall C1 hr (pa_cons (pv 0) pa_nil)) (pe_one (pe_chain op_le op_le pe_int (pv 0) (pe_glob (v := .int 99) (by rfl) gM ⟨_, rfl⟩))))), ?_⟩
    refine ⟨x, rfl, x, t, rfl, ty, _, rfl, ?_⟩
    cases x with
    | int i =>
      refine iteT ⟨_, rfl, _, _, rfl, rfl, _, rfl, ?_⟩
      have e : isGr (.int i) = (decide (1 ≤ i) && decide (i ≤ 99)) := rfl
      rw [e] at k
      cases h1 : decide (1 ≤ i) with
      | false =>
        rw [h1] at k
        exact k
      | true =>
        rw [h1] at k
        exact ⟨_, _, rfl, rfl, k⟩
    | _ => exact iteF k
/-! is_value -/
def isVal : V → Bool
  | .non => true
  | .int i => decide (0 ≤ i)
  | _ => false
def sp_is_value (K : PySem.W.Frag) : Sp := fun vs H Q _ => ∃ (x : V) (t : String), vs = [x] ∧ TyX K H x (.type t) ∧ Q (.bl (isVal x)) H
theorem ok_is_value (T : Tx K mg) : Callee P w K mg base CX0 2 "is_value" ["value"] [] (sp_is_value K) := by
  have C1 := ok_is_whole (P := P) (w := w) (base := base) T
  refine mkCallee (fd_is_value T) (mg_is_value T) sc_is_value (fun _ _ _ _ _ _ us hl => match us, hl with | [_], _ => rfl) (fun vs H Q E h => ?_) (fun cdv A outer s H vs Q E hr h => ?_)
  · obtain ⟨x, t, rfl, _⟩ := h
    rfl
  · obtain ⟨x, t, rfl, ty, k⟩ := h
    refine ⟨_, pss_one (ps_ret (pe_or (pe_cmpR op_isN (pv 0) pe_non (nomark _)) (pe_one (pe_and (pcall C1 hr (pa_cons (pv 0) pa_nil)) (pe_one (pe_cmpR op_ge (pv 0) pe_int (nomark _))))))), ?_⟩
    refine ⟨x, rfl, rfl, _, rfl, ?_⟩
    by_cases hx : x = .non
    · subst hx
      exact k
    · rw [decide_eq_false hx]
      refine iteF ⟨x, rfl, x, t, rfl, ty, _, rfl, ?_⟩
      cases x with
      | int i => exact ⟨_, rfl, _, _, rfl, rfl, k⟩
      | non => exact absurd rfl hx
      | _ => exact k
/-! is_within -/
def isIn (g : Int) : V → Bool
  | .non => true
  | .int i => decide (0 ≤ i) && decide (i ≤ g)
  | _ => false
def sp_is_within (K : PySem.W.Frag) : Sp := fun vs H Q _ => ∃ (x : V) (g : Int) (t : String), vs = [x, .int g] ∧ TyX K H x (.type t) ∧ Q (.bl (isIn g x)) H
theorem ok_is_within (T : Tx K mg) : Callee P w K mg base CX0 3 "is_within" ["value", "greatest"] [] (sp_is_within K) := by
  have C1 := ok_is_value (P := P) (w := w) (base := base) T
  refine mkCallee (fd_is_within T) (mg_is_within T) sc_is_within (fun _ _ _ _ _ _ us hl => match us, hl with | [_, _], _ => rfl) (fun vs H Q E h => ?_) (fun cdv A outer s H vs Q E hr h => ?_)
  · obtain ⟨x, g, t, rfl, _⟩ := h
    rfl
  · obtain ⟨x, g, t, rfl, ty, k⟩ := h
    refine ⟨_, pss_one (ps_ret (pe_and (pcall C1 hr (pa_cons (pv 0) pa_nil)) (pe_one (pe_or (pe_cmpR op_isN (pv 0) pe_non (nomark _)) (pe_one (pe_cmpR op_le (pv 0) (pv 1) (nomark _))))))), ?_⟩
    refine ⟨x, rfl, x, t, rfl, ty, _, rfl, ?_⟩
    cases x with
    | non => exact ⟨_, rfl, rfl, _, rfl, k⟩
    | int i =>
      by_cases hi : 0 ≤ i
      · have e : isVal (.int i) = true := decide_eq_true hi
        rw [e]
        refine ⟨_, rfl, rfl, _, rfl, ?_⟩
        refine ⟨_, rfl, _, rfl, _, _, rfl, rfl, ?_⟩
        have e2 : isIn g (.int i) = decide (i ≤ g) := by
          show (decide (0 ≤ i) && decide (i ≤ g)) = _
          rw [decide_eq_true hi, Bool.true_and]
        rw [e2] at k
        exact k
      · have e : isVal (.int i) = false := decide_eq_false hi
        rw [e]
        have e2 : isIn g (.int i) = false := by
          show (decide (0 ≤ i) && decide (i ≤ g)) = _
          rw [decide_eq_false hi, Bool.false_and]
        rw [e2] at k
        exact k
    | _ => exact k
/-! values_to -/
def sp_values_to : Sp := fun vs H Q _ => ∃ g : Int, vs = [.int g] ∧ 0 ≤ g ∧ g ≤ 1000000 ∧ ∀ p H', H p = none → Same H H' → H' p = some (.lst (valsTo g)) → Q (.ref p) H'
theorem ok_values_to (T : Tx K mg) : Callee P w K mg base CX0 1 "values_to" ["greatest"] [] sp_values_to := by
  refine mkCallee (fd_values_to T) (mg_values_to T) sc_values_to (fun _ _ _ _ _ _ us hl => match us, hl with | [_], _ => rfl) (fun vs H Q E h => ?_) (fun cdv A outer s H vs Q E hr h => ?_)
  · obtain ⟨g, rfl, _⟩ := h
    rfl
  · obtain ⟨g, rfl, h0, h1, k⟩ := h
    refine ⟨_, pss_one (ps_ret (pe_op op_cat (pe_lst (pa_cons pe_non pa_nil)) (pe_listRg rfl (by rfl) (fr_list T) (prg_1 (by rfl) (fr_range T) (pe_op op_add (pv 0) pe_int))))), ?_⟩
    refine ⟨by decide, fun l hl => ?_⟩
    refine ⟨_, rfl, _, _, rfl, rfl, _, rfl, .of_le (by omega) (by omega) (by omega) (by omega), fun q hq => ?_⟩
    have nq : l ≠ q := ne_of_none upd_same hq
    refine ⟨l, q, _, _, rfl, rfl, (by rw [upd_ne nq]; exact upd_same), upd_same, ?_, fun p hp => ?_⟩
    · rw [rgV_length]
      have : sizeLine = 16777216 := by decide
      rw [this]
      show 1 + (g + 1 - 0).toNat ≤ _
      omega
    · have s1 : Same H (upd (upd H l (.lst [.non])) q (.lst (rgV 0 (g + 1)))) := (same_new hl).trans (same_new hq)
      exact k p _ (s1.free hp) (s1.trans (same_new hp)) upd_same
/-! Column.__init__, where its parts fit -/
def colFs (n : Str) (g : Int) (d : V) (k : Int) : List (Str × V) := [("name", .str n), ("greatest", .int g), ("default", d), ("number", .int k)]
theorem colFs_eq (n : Str) (g : Int) (d : V) (k : Int) : putF "number" (.int k) (putF "default" d (putF "greatest" (.int g) (putF "name" (.str n) []))) = colFs n g d k := by
  have h1 : ¬ (("name" : Str) = "greatest") := by decide +kernel
  have h2 : ¬ (("name" : Str) = "default") := by decide +kernel
  have h3 : ¬ (("greatest" : Str) = "default") := by decide +kernel
  have h4 : ¬ (("name" : Str) = "number") := by decide +kernel
  have h5 : ¬ (("greatest" : Str) = "number") := by decide +kernel
  have h6 : ¬ (("default" : Str) = "number") := by decide +kernel
  simp only [putF, if_neg h1, if_neg h2, if_neg h3, if_neg h4, if_neg h5, if_neg h6]
  rfl
theorem put2 (n : Str) (g : Int) : putF "greatest" (.int g) (putF "name" (.str n) []) = ([("name", .str n), ("greatest", .int g)] : List (Str × V)) := by
  have h1 : ¬ (("name" : Str) = "greatest") := by decide +kernel
  simp only [putF, if_neg h1]
theorem put3 (n : Str) (g : Int) (d : V) : putF "default" d (putF "greatest" (.int g) (putF "name" (.str n) [])) = ([("name", .str n), ("greatest", .int g), ("default", d)] : List (Str × V)) := by
  have h2 : ¬ (("name" : Str) = "default") := by decide +kernel
  have h3 : ¬ (("greatest" : Str) = "default") := by decide +kernel
  rw [put2]
  simp only [putF, if_neg h2, if_neg h3]
theorem colFs_name {n : Str} {g : Int} {d : V} {k : Int} : (colFs n g d k).lookup ("name" : Str) = some (.str n) := by
  unfold colFs
  simp [List.lookup]
theorem colFs_greatest {n : Str} {g : Int} {d : V} {k : Int} : (colFs n g d k).lookup ("greatest" : Str) = some (.int g) := by
  have h1 : (("greatest" : Str) == "name") = false := by decide +kernel
  unfold colFs
  simp [List.lookup, h1]
theorem colFs_default {n : Str} {g : Int} {d : V} {k : Int} : (colFs n g d k).lookup ("default" : Str) = some d := by
  have h1 : (("default" : Str) == "name") = false := by decide +kernel
  have h2 : (("default" : Str) == "greatest") = false := by decide +kernel
  unfold colFs
  simp [List.lookup, h1, h2]
theorem colFs_number {n : Str} {g : Int} {d : V} {k : Int} : (colFs n g d k).lookup ("number" : Str) = some (.int k) := by
  have h1 : (("number" : Str) == "name") = false := by decide +kernel
  have h2 : (("number" : Str) == "greatest") = false := by decide +kernel
  have h3 : (("number" : Str) == "default") = false := by decide +kernel
  unfold colFs
  simp [List.lookup, h1, h2, h3]
/-- a Column stands at c -/
def ColAt (K : PySem.W.Frag) (H : Hp) (c : Addr) (n : Str) (g : Int) (d : V) (k : Int) : Prop := ∃ dx, H c = some (.ins (He.ga K "Column") dx (colFs n g d k))
def sp_Col_init (K : PySem.W.Frag) : Sp := fun vs H Q _ => ∃ (c dx : Addr) (n : Str) (g k : Int) (d : V), vs = [.ref c, .str n, .int g, d, .int k] ∧ H c = some (.ins (He.ga K "Column") dx []) ∧ isNm (.str n) = true ∧ isGr (.int g) = true ∧ isIn g d = true ∧ 0 ≤ k ∧
  ∀ H', ColAt K H' c n g d k → (∀ b o, b ≠ c → H b = some o → H' b = some o) → Q .non H'
theorem nm_len {n : Str} (h : isNm (.str n) = true) : n.length ≤ 1000 := by
  have h' : (decide (1 ≤ n.length) && (decide (n.length ≤ 8) && _)) = true := h
  rw [Bool.and_eq_true, Bool.and_eq_true] at h'
  have := of_decide_eq_true h'.2.1
  omega
theorem ok_Col_init (T : Tx K mg) : ∃ fd, FnOk P w K mg base CX0 4 (He.ma K (He.ga K "Column") "__init__") fd ["self", "name", "greatest", "default", "number"] (sp_Col_init K) ∧
    FunD K "__init__" "Column.__init__" (defArgs s_Column___init__) (defBody s_Column___init__) (defScope s_Column___init__) (d_Column___init__.dvs K) (d_Column___init__.kws K) (He.ma K (He.ga K "Column") "__init__") fd := by
  have C1 := (ok_is_name (P := P) (w := w) (base := base) T).up (show 1 ≤ 3 by decide)
  have C2 := (ok_is_greatest (P := P) (w := w) (base := base) T).up (show 2 ≤ 3 by decide)
  have C3 := ok_is_within (P := P) (w := w) (base := base) T
  have C4 := (ok_is_whole (P := P) (w := w) (base := base) T).up (show 1 ≤ 3 by decide)
  obtain ⟨fd, F⟩ := fd_Column___init__ T
  refine ⟨fd, F.ok (CX := CX0) sc_Column___init__ (fun vs H Q E h => ?_) (fun cdv A outer s H vs Q E hr h => ?_), F⟩
  · obtain ⟨c, dx, n, g, k, d, rfl, _⟩ := h
    rfl
  suffices hh : ∃ t, PSs (cxOf CX0 P w K mg base ["self", "name", "greatest", "default", "number"] "Column.__init__" (defScope s_Column___init__) (He.ma K (He.ga K "Column") "__init__") cdv A outer s H E).nox (defBody s_Column___init__) t ∧
      t { nx := fun _ H' => Q .non H', rt := Q } (start ["self", "name", "greatest", "default", "number"] vs) H by
    obtain ⟨t, h1, h2⟩ := hh
    exact ⟨t, h1.nox, h2⟩
  obtain ⟨c, dx, n, g, k, d, rfl, hc, hn, hg, hd, hk, kk⟩ := h
  have cl := cl_Column T
  refine ⟨_, pss_cons (ps_if (pt_not (pt_val (pcall C1 hr (pa_cons (pv 1) pa_nil)))) (pss_one ps_never) pss_nil)
    (pss_cons (ps_if (pt_not (pt_val (pcall C2 hr (pa_cons (pv 2) pa_nil)))) (pss_one ps_never) pss_nil)
    (pss_cons (ps_if (pt_not (pt_val (pcall C3 hr (pa_cons (pv 3) (pa_cons (pv 2) pa_nil))))) (pss_one ps_never) pss_nil)
    (pss_cons (ps_if (PW.pt (pw_or (pt_not (pt_val (pcall C4 hr (pa_cons (pv 4) pa_nil)))) (pw_or1 (pt_cmpR op_lt (pv 4) pe_int (nomark _))))) (pss_one ps_never) pss_nil)
    (pss_cons (ps_fld (pv 0) (pv 1) rfl) (pss_cons (ps_fld (pv 0) (pv 2) rfl) (pss_cons (ps_fld (pv 0) (pv 3) rfl) (pss_one (ps_fld (pv 0) (pv 4) rfl)))))))), ?_⟩
  have td : ∃ t, ∀ H : Hp, TyX K H d (.type t) := by
    cases d with
    | non => exact ⟨_, fun _ => .base .non⟩
    | int i => exact ⟨_, fun _ => .base (.int i)⟩
    | _ => cases hd
  obtain ⟨t, td⟩ := td
  refine ⟨_, rfl, .str n, _, rfl, .base (.str n), fun m e => by cases e; exact nm_len hn, fun H1 s1 => ⟨_, rfl, ?_⟩⟩
  rw [hn]
  refine iteF ⟨_, rfl, .int g, _, rfl, .base (.int g), _, rfl, ?_⟩
  rw [hg]
  refine iteF ⟨_, rfl, _, rfl, d, g, _, rfl, td _, _, rfl, ?_⟩
  rw [hd]
  refine iteF ⟨_, rfl, .int k, _, rfl, .base (.int k), _, rfl, iteF ⟨_, rfl, _, _, rfl, rfl, _, rfl, ?_⟩⟩
  rw [decide_eq_false (show ¬ k < 0 by omega)]
  refine iteF ?_
  have hc1 := s1 _ _ hc
  refine ⟨_, rfl, _, rfl, c, _, dx, _, rfl, hc1, cl, na_Column_name T, (by show 0 < 1000; decide), ?_⟩
  refine ⟨_, rfl, _, rfl, c, _, dx, _, rfl, upd_same, cl, na_Column_greatest T, (by show 1 < 1000; decide), ?_⟩
  refine ⟨_, rfl, _, rfl, c, _, dx, _, rfl, upd_same, cl, na_Column_default T, (by rw [put2]; show 2 < 1000; decide), ?_⟩
  refine ⟨_, rfl, _, rfl, c, _, dx, _, rfl, upd_same, cl, na_Column_number T, (by rw [put3]; show 3 < 1000; decide), ?_⟩
  refine kk _ ⟨dx, ?_⟩ fun b o hb e => by rw [upd_ne hb, upd_ne hb, upd_ne hb, upd_ne hb]; exact s1 _ _ e
  rw [upd_same, colFs_eq]
/-- Column(name, greatest, default) -/
theorem binds_Col3 (T : Tx K mg) {fd : FuncData} (F : FunD K "__init__" "Column.__init__" (defArgs s_Column___init__) (defBody s_Column___init__) (defScope s_Column___init__) (d_Column___init__.dvs K) (d_Column___init__.kws K) (He.ma K (He.ga K "Column") "__init__") fd) :
    ∃ ds, Vals [V.int 0] ds ∧ Binds K fd ["self", "name", "greatest", "default", "number"] ds := by
  have h := F.binds (ps := ["self", "name", "greatest", "default", "number"]) 4 1 (by intro z; cases z) rfl (fun TT D doc pm an cdv ct us its ks h1 h2 h3 => ?_) (by intro z; cases z)
  · exact h
  · match us, h1, its, h2, ks, h3 with
    | [u0, u1, u2, u3], _, [i0], _, [k0], _ => exact ⟨_, rfl, _, _, _, _, _, _, rfl, rfl, rfl⟩
/-! None or an int -/
/-- None or an int -/
def valOk : V → Bool
  | .non => true
  | .int _ => true
  | _ => false

/-! values compared -/
theorem val_scal2 {v u : V} (h : isVal v = true) (g : isVal u = true) : scal v u = true := by
  cases v with
  | non => cases u with
    | non => rfl
    | int _ => rfl
    | _ => cases g
  | int _ => cases u with
    | non => rfl
    | int _ => rfl
    | _ => cases g
  | _ => cases h
theorem val_scal {v : V} (h : isVal v = true) : scal v v = true := by
  cases v with
  | non => rfl
  | int _ => rfl
  | _ => cases h
theorem in_val {g : Int} {v : V} (h : isIn g v = true) : isVal v = true := by
  cases v with
  | non => rfl
  | int i =>
    have h : (decide (0 ≤ i) && decide (i ≤ g)) = true := h
    exact (Bool.and_eq_true_iff.mp h).1
  | _ => cases h
theorem in_valOk {g : Int} {v : V} (h : isIn g v = true) : valOk v = true := by
  cases v with
  | non => rfl
  | int _ => rfl
  | _ => cases h

-- needs: Column.__init__
/-! columns of a list, as data -/
structure Col where
  name : Str
  top : Int
  dflt : V
  num : Int
/-- the columns at the addresses as -/
inductive Cols (K : PySem.W.Frag) (H : Hp) : List Addr → List Col → Prop
  | nil : Cols K H [] []
  | cons {a : Addr} {as : List Addr} {c : Col} {cs : List Col} : ColAt K H a c.name c.top c.dflt c.num → Cols K H as cs → Cols K H (a :: as) (c :: cs)
theorem ColAt.keep {K : PySem.W.Frag} {H H' : Hp} {a : Addr} {n : Str} {g k : Int} {d : V} (s : Same H H') (h : ColAt K H a n g d k) : ColAt K H' a n g d k := h.imp fun _ e => s _ _ e
theorem Cols.keep {K : PySem.W.Frag} {H H' : Hp} (s : Same H H') : ∀ {as : List Addr} {cs : List Col}, Cols K H as cs → Cols K H' as cs
  | _, _, .nil => .nil
  | _, _, .cons h t => .cons (h.keep s) (t.keep s)
theorem Cols.len {K : PySem.W.Frag} {H : Hp} : ∀ {as : List Addr} {cs : List Col}, Cols K H as cs → as.length = cs.length
  | _, _, .nil => rfl
  | _, _, .cons _ t => congrArg Nat.succ t.len
theorem Cols.at_ {K : PySem.W.Frag} {H : Hp} : ∀ {as : List Addr} {cs : List Col} {i : Nat} {a : Addr}, Cols K H as cs → as[i]? = some a → ∃ c, cs[i]? = some c ∧ ColAt K H a c.name c.top c.dflt c.num
  | _, _, _, _, .nil, e => by simp at e
  | _, _, 0, _, .cons h t, e => by
    simp at e
    subst e
    exact ⟨_, rfl, h⟩
  | _, _, i + 1, a, .cons h t, e => by
    obtain ⟨c, h1, h2⟩ := Cols.at_ (i := i) (a := a) t (by simpa using e)
    exact ⟨c, by simpa using h1, h2⟩
def isN (n : Str) (c : Col) : Bool := decide (c.name = n)

-- needs: +COLS
/-! a column at an address -/
def ColA (K : PySem.W.Frag) (H : Hp) (a : Addr) (c : Col) : Prop := ColAt K H a c.name c.top c.dflt c.num
theorem ColA.keep {K : PySem.W.Frag} {H H' : Hp} {a : Addr} {c : Col} (s : Same H H') (h : ColA K H a c) : ColA K H' a c := h.imp fun _ e => s _ _ e
theorem ColA.keepNL {K : PySem.W.Frag} {H H' : Hp} {a : Addr} {c : Col} (s : KeepNL H H') (h : ColA K H a c) : ColA K H' a c := h.imp fun _ e => s _ _ (fun _ z => by cases z) e

/-! column == column -/
def colEq (c d : Col) : Bool := decide (c.name = d.name) && (decide (c.top = d.top) && (decide (c.dflt = d.dflt) && decide (c.num = d.num)))
theorem colEq_self (c : Col) : colEq c c = true := by
  unfold colEq
  rw [decide_eq_true rfl, decide_eq_true rfl, decide_eq_true rfl, decide_eq_true rfl]
  rfl
def sp_Col_eq (K : PySem.W.Frag) : Sp := fun vs H Q _ => ∃ (a b : Addr) (c d : Col), vs = [.ref a, .ref b] ∧ ColA K H a c ∧ ColA K H b d ∧ isVal c.dflt = true ∧ isVal d.dflt = true ∧ Q (.bl (colEq c d)) H
theorem ok_Col_eq (T : Tx K mg) : ∃ fd, FnOk P w K mg base CX0 1 (He.ma K (He.ga K "Column") "__eq__") fd ["self", "other"] (sp_Col_eq K) ∧ Binds K fd ["self", "other"] [] := by
  have ic := insC_of (ex_Column T) (cl_Column T)
  have cl := cl_Column T
  refine mkMeth (fd_Column___eq__ T) sc_Column___eq__ (fun _ _ _ _ _ _ us hl => match us, hl with | [_, _], _ => rfl) (fun vs H Q E h => ?_) (fun cdv A outer s H vs Q E hr h => ?_)
  · obtain ⟨a, b, c, d, rfl, _⟩ := h
    rfl
  obtain ⟨a, b, c, d, rfl, ⟨dx, h1⟩, ⟨dy, h2⟩, v1, v2, k⟩ := h
  refine ⟨_, pss_one (ps_ret (pe_and (pe_callB (C8.call_isC ic) (by rfl) (fr_isinstance T) (by decide +kernel) (pa_cons (pv 1) (pa_cons (pe_glob (v := .ref (He.ga K "Column")) (by rfl) (mg_Column T) rfl) pa_nil)))
    (pe_and (pe_cmpR op_eq (pe_fld (pv 0) rfl) (pe_fld (pv 1) rfl) (nomark _)) (pe_and (pe_cmpR op_eq (pe_fld (pv 0) rfl) (pe_fld (pv 1) rfl) (nomark _)) (pe_and (pe_cmpR op_eq (pe_fld (pv 0) rfl) (pe_fld (pv 1) rfl) (nomark _)) (pe_one (pe_cmpR op_eq (pe_fld (pv 0) rfl) (pe_fld (pv 1) rfl) (nomark _)))))))), ?_⟩
  have dI : ∀ i j : Int, decide (V.int i = V.int j) = decide (i = j) := fun i j => by
    rw [Bool.eq_iff_iff, decide_eq_true_iff, decide_eq_true_iff]
    exact ⟨V.int.inj, congrArg _⟩
  have dS : ∀ i j : Str, decide (V.str i = V.str j) = decide (i = j) := fun i j => by
    rw [Bool.eq_iff_iff, decide_eq_true_iff, decide_eq_true_iff]
    exact ⟨V.str.inj, congrArg _⟩
  unfold colEq at k
  refine ⟨_, rfl, b, dy, _, rfl, h2, _, rfl, iteT ?_⟩
  refine ⟨_, rfl, a, _, dx, _, _, rfl, h1, cl, na_Column_name T, colFs_name, _, rfl, b, _, dy, _, _, rfl, h2, cl, na_Column_name T, colFs_name, rfl, _, rfl, ?_⟩
  rw [dS]
  cases e1 : decide (c.name = d.name) with
  | false =>
    rw [e1] at k
    exact iteF k
  | true =>
    rw [e1, Bool.true_and] at k
    refine iteT ⟨_, rfl, a, _, dx, _, _, rfl, h1, cl, na_Column_greatest T, colFs_greatest, _, rfl, b, _, dy, _, _, rfl, h2, cl, na_Column_greatest T, colFs_greatest, rfl, _, rfl, ?_⟩
    rw [dI]
    cases e2 : decide (c.top = d.top) with
    | false =>
      rw [e2] at k
      exact iteF k
    | true =>
      rw [e2, Bool.true_and] at k
      refine iteT ⟨_, rfl, a, _, dx, _, _, rfl, h1, cl, na_Column_default T, colFs_default, _, rfl, b, _, dy, _, _, rfl, h2, cl, na_Column_default T, colFs_default, val_scal2 v1 v2, _, rfl, ?_⟩
      cases e3 : decide (c.dflt = d.dflt) with
      | false =>
        rw [e3] at k
        exact iteF k
      | true =>
        rw [e3, Bool.true_and] at k
        refine iteT ⟨_, rfl, a, _, dx, _, _, rfl, h1, cl, na_Column_number T, colFs_number, _, rfl, b, _, dy, _, _, rfl, h2, cl, na_Column_number T, colFs_number, rfl, ?_⟩
        rw [dI]
        exact k
/-! Column.__contains__ -/
def sp_contains (K : PySem.W.Frag) : Sp := fun vs H Q _ => ∃ (c : Addr) (n : Str) (g k : Int) (d x : V) (t : String), vs = [.ref c, x] ∧ ColAt K H c n g d k ∧ TyX K H x (.type t) ∧ Q (.bl (isIn g x)) H
theorem ok_contains (T : Tx K mg) : ∃ fd, FnOk P w K mg base CX0 4 (He.ma K (He.ga K "Column") "__contains__") fd ["self", "x"] (sp_contains K) ∧ Binds K fd ["self", "x"] [] := by
  have C1 := ok_is_within (P := P) (w := w) (base := base) T
  obtain ⟨fd, F⟩ := fd_Column___contains__ T
  refine ⟨fd, F.ok (CX := CX0) sc_Column___contains__ (fun vs H Q E h => ?_) (fun cdv A outer s H vs Q E hr h => ?_), F.bindsN fun _ _ _ _ _ _ us hl => match us, hl with | [_, _], _ => rfl⟩
  · obtain ⟨c, n, g, k, d, x, t, rfl, _⟩ := h
    rfl
  suffices hh : ∃ t, PSs (cxOf CX0 P w K mg base ["self", "x"] "Column.__contains__" (defScope s_Column___contains__) (He.ma K (He.ga K "Column") "__contains__") cdv A outer s H E).nox (defBody s_Column___contains__) t ∧
      t { nx := fun _ H' => Q .non H', rt := Q } (start ["self", "x"] vs) H by
    obtain ⟨t, h1, h2⟩ := hh
    exact ⟨t, h1.nox, h2⟩
  obtain ⟨c, n, g, k, d, x, t, rfl, ⟨dx, hc⟩, ty, kk⟩ := h
  refine ⟨_, pss_one (ps_ret (pcall C1 hr (pa_cons (pv 1) (pa_cons (pe_fld (pv 0) rfl) pa_nil)))), ?_⟩
  exact ⟨_, rfl, _, rfl, c, _, dx, _, _, rfl, hc, cl_Column T, na_Column_greatest T, colFs_greatest, x, g, t, rfl, ty, kk⟩
/-! Column.all_values -/
def sp_all_values (K : PySem.W.Frag) : Sp := fun vs H Q _ => ∃ (c : Addr) (n : Str) (g k : Int) (d : V), vs = [.ref c] ∧ ColAt K H c n g d k ∧ 0 ≤ g ∧ g ≤ 1000 ∧ ∀ p H', H p = none → Same H H' → H' p = some (.lst (valsTo g)) → Q (.ref p) H'
theorem ok_all_values (T : Tx K mg) : ∃ fd, FnOk P w K mg base CX0 2 (He.ma K (He.ga K "Column") "all_values") fd ["self"] (sp_all_values K) ∧ Binds K fd ["self"] [] := by
  have C1 := ok_values_to (P := P) (w := w) (base := base) T
  obtain ⟨fd, F⟩ := fd_Column_all_values T
  refine ⟨fd, F.ok (CX := CX0) sc_Column_all_values (fun vs H Q E h => ?_) (fun cdv A outer s H vs Q E hr h => ?_), F.bindsN fun _ _ _ _ _ _ us hl => match us, hl with | [_], _ => rfl⟩
  · obtain ⟨c, n, g, k, d, rfl, _⟩ := h
    rfl
  suffices hh : ∃ t, PSs (cxOf CX0 P w K mg base ["self"] "Column.all_values" (defScope s_Column_all_values) (He.ma K (He.ga K "Column") "all_values") cdv A outer s H E).nox (defBody s_Column_all_values) t ∧
      t { nx := fun _ H' => Q .non H', rt := Q } (start ["self"] vs) H by
    obtain ⟨t, h1, h2⟩ := hh
    exact ⟨t, h1.nox, h2⟩
  obtain ⟨c, n, g, k, d, rfl, ⟨dx, hc⟩, h0, h1, kk⟩ := h
  refine ⟨_, pss_one (ps_ret (pcall C1 hr (pa_cons (pe_fld (pv 0) rfl) pa_nil))), ?_⟩
  exact ⟨_, rfl, c, _, dx, _, _, rfl, hc, cl_Column T, na_Column_greatest T, colFs_greatest, g, rfl, h0, by omega, kk⟩
/-! Column.changed, where the part fits -/
def put (part : Str) (v : V) (n : V) (g : V) (d : V) (k : V) : List (Key × V) := putK ([(Sum.inr "name", n), (Sum.inr "greatest", g), (Sum.inr "default", d), (Sum.inr "number", k)] : List (Key × V)) (Sum.inr part) v
/-- what stands under the four names behind it -/
structure Four (part : Str) (v n g d k n' g' d' k' : V) : Prop where
  part_ : part = "name" ∨ part = "greatest" ∨ part = "default" ∨ part = "number"
  eq : (n', g', d', k') = (if part = "name" then (v, g, d, k) else if part = "greatest" then (n, v, d, k) else if part = "default" then (n, g, v, k) else (n, g, d, v))
theorem merge4 (x y z u : V) : mergeK [] [(Sum.inr "name", x), (Sum.inr "greatest", y), (Sum.inr "default", z), (Sum.inr "number", u)] = ([(Sum.inr "name", x), (Sum.inr "greatest", y), (Sum.inr "default", z), (Sum.inr "number", u)] : List (Key × V)) := by
  have h1 : ¬ ((Sum.inr "name" : Key) = (Sum.inr "greatest" : Key)) := by decide +kernel
  have h2 : ¬ ((Sum.inr "name" : Key) = (Sum.inr "default" : Key)) := by decide +kernel
  have h3 : ¬ ((Sum.inr "name" : Key) = (Sum.inr "number" : Key)) := by decide +kernel
  have h4 : ¬ ((Sum.inr "greatest" : Key) = (Sum.inr "default" : Key)) := by decide +kernel
  have h5 : ¬ ((Sum.inr "greatest" : Key) = (Sum.inr "number" : Key)) := by decide +kernel
  have h6 : ¬ ((Sum.inr "default" : Key) = (Sum.inr "number" : Key)) := by decide +kernel
  simp [mergeK, putK, h1, h2, h3, h4, h5, h6]
theorem put_get {part : Str} {v n g d k n' g' d' k' : V} (f : Four part v n g d k n' g' d' k') : valV (put part v n g d k) (Sum.inr "name") = some n' ∧ valV (put part v n g d k) (Sum.inr "greatest") = some g' ∧ valV (put part v n g d k) (Sum.inr "default") = some d' ∧ valV (put part v n g d k) (Sum.inr "number") = some k' := by
  have h1 : ¬ ((Sum.inr "name" : Key) = (Sum.inr "greatest" : Key)) := by decide +kernel
  have h2 : ¬ ((Sum.inr "name" : Key) = (Sum.inr "default" : Key)) := by decide +kernel
  have h3 : ¬ ((Sum.inr "name" : Key) = (Sum.inr "number" : Key)) := by decide +kernel
  have h4 : ¬ ((Sum.inr "greatest" : Key) = (Sum.inr "default" : Key)) := by decide +kernel
  have h5 : ¬ ((Sum.inr "greatest" : Key) = (Sum.inr "number" : Key)) := by decide +kernel
  have h6 : ¬ ((Sum.inr "default" : Key) = (Sum.inr "number" : Key)) := by decide +kernel
  have k1 : ¬ ((Sum.inr "greatest" : Key) = (Sum.inr "name" : Key)) := by decide +kernel
  have k2 : ¬ ((Sum.inr "default" : Key) = (Sum.inr "name" : Key)) := by decide +kernel
  have k3 : ¬ ((Sum.inr "number" : Key) = (Sum.inr "name" : Key)) := by decide +kernel
  have k4 : ¬ ((Sum.inr "default" : Key) = (Sum.inr "greatest" : Key)) := by decide +kernel
  have k5 : ¬ ((Sum.inr "number" : Key) = (Sum.inr "greatest" : Key)) := by decide +kernel
  have k6 : ¬ ((Sum.inr "number" : Key) = (Sum.inr "default" : Key)) := by decide +kernel
  have g1 : ¬ (("greatest" : Str) = "name") := by decide +kernel
  have g2 : ¬ (("default" : Str) = "name") := by decide +kernel
  have g3 : ¬ (("default" : Str) = "greatest") := by decide +kernel
  have g4 : ¬ (("number" : Str) = "name") := by decide +kernel
  have g5 : ¬ (("number" : Str) = "greatest") := by decide +kernel
  have g6 : ¬ (("number" : Str) = "default") := by decide +kernel
  have e := f.eq
  rcases f.part_ with rfl | rfl | rfl | rfl
  · rw [if_pos rfl] at e
    cases e
    simp [put, putK, valV, h1, h2, h3, h4, h5, h6, k1, k2, k3, k4, k5, k6]
  · rw [if_neg g1, if_pos rfl] at e
    cases e
    simp [put, putK, valV, h1, h2, h3, h4, h5, h6, k1, k2, k3, k4, k5, k6]
  · rw [if_neg g2, if_neg g3, if_pos rfl] at e
    cases e
    simp [put, putK, valV, h1, h2, h3, h4, h5, h6, k1, k2, k3, k4, k5, k6]
  · rw [if_neg g4, if_neg g5, if_neg g6] at e
    cases e
    simp [put, putK, valV, h1, h2, h3, h4, h5, h6, k1, k2, k3, k4, k5, k6]
/-- Column(name, greatest, default, number=..) -/
theorem kbinds_Col (T : Tx K mg) {fd : FuncData} (F : FunD K "__init__" "Column.__init__" (defArgs s_Column___init__) (defBody s_Column___init__) (defScope s_Column___init__) (d_Column___init__.dvs K) (d_Column___init__.kws K) (He.ma K (He.ga K "Column") "__init__") fd) :
    ∃ its mv : List Value, KBn K fd ["self", "name", "greatest", "default", "number"] 4 ["number"] (fun us ws => us ++ ws) (fun vs zs => vs ++ zs) := by
  have h := F.kbinds (ps := ["self", "name", "greatest", "default", "number"]) 4 ["number"] [] (fun us its mv ws => us ++ ws) (by intro z; cases z) (by intro z; cases z) (by intro q hq; cases hq) (fun r1 _ _ r4 => r1.append r4) (fun TT D doc pm an cdv ct us its mv ws h1 h2 h3 h4 => ?_)
  · exact h
  · match us, h1, its, h2, mv, h3, ws, h4 with
    | [u0, u1, u2, u3], _, [i0], _, [], _, [w0], _ => exact ⟨_, rfl, rfl⟩
def sp_changed (K : PySem.W.Frag) : Sp := fun vs H Q _ => ∃ (c : Addr) (part n n' : Str) (g k g' k' : Int) (d d' v : V), vs = [.ref c, .str part, v] ∧ ColAt K H c n g d k ∧ Four part v (.str n) (.int g) d (.int k) (.str n') (.int g') d' (.int k') ∧
  isNm (.str n') = true ∧ isGr (.int g') = true ∧ isIn g' d' = true ∧ 0 ≤ k' ∧ ∀ (a : Addr) (H' : Hp), H a = none → Same H H' → ColAt K H' a n' g' d' k' → Q (.ref a) H'
theorem ok_changed (T : Tx K mg) : ∃ fd, FnOk P w K mg base CX0 6 (He.ma K (He.ga K "Column") "changed") fd ["self", "part", "value"] (sp_changed K) ∧ Binds K fd ["self", "part", "value"] [] := by
  obtain ⟨fdI, GI, FI⟩ := ok_Col_init (P := P) (w := w) (base := base) T
  obtain ⟨_, _, kb⟩ := kbinds_Col T FI
  obtain ⟨fd, F⟩ := fd_Column_changed T
  have cl := cl_Column T
  refine ⟨fd, F.ok (CX := CX0) sc_Column_changed (fun vs H Q E h => ?_) (fun cdv A outer s H vs Q E hr h => ?_), F.bindsN fun _ _ _ _ _ _ us hl => match us, hl with | [_, _, _], _ => rfl⟩
  · obtain ⟨c, part, n, n', g, k, g', k', d, d', v, rfl, _⟩ := h
    rfl
  suffices hh : ∃ t, PSs (cxOf CX0 P w K mg base ["self", "part", "value", "parts"] "Column.changed" (defScope s_Column_changed) (He.ma K (He.ga K "Column") "changed") cdv A outer s H E).nox (defBody s_Column_changed) t ∧
      t { nx := fun _ H' => Q .non H', rt := Q } (start ["self", "part", "value", "parts"] vs) H by
    obtain ⟨t, h1, h2⟩ := hh
    exact ⟨t, h1.nox, h2⟩
  obtain ⟨c, part, n, n', g, k, g', k', d, d', v, rfl, ⟨dx, hc⟩, f4, hn, hg, hd, hk, kk⟩ := h
  have nd := sc_Column_changed.nd
  have hu := hu_of hr
  have CW := (ok_is_word (P := P) (w := w) (base := base) T).up (show 1 ≤ 5 by decide)
  refine ⟨_, pss_cons (ps_if (pt_not (pt_val (pcall CW hr (pa_cons (pv 1) (pa_cons (pe_glob (v := .ref (He.ga K "PARTS")) (by rfl) (mg_PARTS T) rfl) pa_nil))))) (pss_one ps_never) pss_nil)
    (pss_cons (ps_set (i := 3) nd rfl (Or.inl rfl) (pe_disp (pps_cons pe_str (pe_fld (pv 0) rfl) (pps_cons pe_str (pe_fld (pv 0) rfl) (pps_cons pe_str (pe_fld (pv 0) rfl) (pps_cons pe_str (pe_fld (pv 0) rfl) pps_nil)))) (by rfl) (by rfl) (fun z => by cases z) (by decide)))
    (pss_cons (ps_dput hu (pv 3) (pv 1) (pv 2) rfl)
    (pss_one (ps_ret (pe_makeK (mk_Column T) GI hr (by rfl) (mg_Column T) kb pass0 (pa_cons (pe_dget hu (pv 3) pe_str (fun _ _ => rfl)) (pa_cons (pe_dget hu (pv 3) pe_str (fun _ _ => rfl)) (pa_cons (pe_dget hu (pv 3) pe_str (fun _ _ => rfl)) pa_nil)))
      (pk_cons (pe_dget hu (pv 3) pe_str (fun _ _ => rfl)) pk_nil)))))), ?_⟩
  have hP : SqT K H (He.ga K "PARTS") [.str "name", .str "greatest", .str "default", .str "number"] := He.tupB_ok (ex_PARTS T) H
  have hin : wordV (.str part) [.str "name", .str "greatest", .str "default", .str "number"] = true := by
    rcases f4.part_ with rfl | rfl | rfl | rfl <;> decide +kernel
  refine ⟨_, rfl, .str part, _, _, _, rfl, .base (.str part), hP, rfl, _, rfl, ?_⟩
  rw [hin]
  refine iteF (nxt ?_)
  refine fun p np => ?_
  have hc1 : ∀ o, upd H p o c = some (.ins (He.ga K "Column") dx (colFs n g d k)) := fun o => same_new np _ _ hc
  refine ⟨_, rfl, c, _, dx, _, _, rfl, hc1 _, cl, na_Column_name T, colFs_name, _, rfl, c, _, dx, _, _, rfl, hc1 _, cl, na_Column_greatest T, colFs_greatest, _, rfl, c, _, dx, _, _, rfl, hc1 _, cl, na_Column_default T, colFs_default,
    _, rfl, c, _, dx, _, _, rfl, hc1 _, cl, na_Column_number T, colFs_number, upd_same, [(Sum.inr "name", .str n), (Sum.inr "greatest", .int g), (Sum.inr "default", d), (Sum.inr "number", .int k)], rfl, (by show 4 ≤ 15; decide), ?_⟩
  rw [upd_upd, merge4]
  refine ⟨_, rfl, _, rfl, _, rfl, p, _, rfl, DPut.k (k := Sum.inr part) upd_same (by show 4 < sizeLine; decide), ?_⟩
  rw [upd_upd]
  obtain ⟨q1, q2, q3, q4⟩ := put_get f4
  have hp : upd H p (.dK (put part v (.str n) (.int g) d (.int k))) p = some (.dK (put part v (.str n) (.int g) d (.int k))) := upd_same
  have s1 : Same H (upd H p (.dK (put part v (.str n) (.int g) d (.int k)))) := same_new np
  have g1 : DGet (upd H p (.dK (put part v (.str n) (.int g) d (.int k)))) p (.str "name") (some (.str n')) := by
    rw [← q1]
    exact DGet.k (k := Sum.inr "name") hp
  have g2 : DGet (upd H p (.dK (put part v (.str n) (.int g) d (.int k)))) p (.str "greatest") (some (.int g')) := by
    rw [← q2]
    exact DGet.k (k := Sum.inr "greatest") hp
  have g3 : DGet (upd H p (.dK (put part v (.str n) (.int g) d (.int k)))) p (.str "default") (some d') := by
    rw [← q3]
    exact DGet.k (k := Sum.inr "default") hp
  have g4 : DGet (upd H p (.dK (put part v (.str n) (.int g) d (.int k)))) p (.str "number") (some (.int k')) := by
    rw [← q4]
    exact DGet.k (k := Sum.inr "number") hp
  refine ⟨_, rfl, p, _, rfl, g1, _, rfl, p, _, rfl, g2, _, rfl, p, _, rfl, g3, _, rfl, p, _, rfl, g4, rfl, rfl, fun x dx2 nx ndx ndc => ?_⟩
  refine ⟨x, dx2, n', g', k', d', rfl, upd_same, hn, hg, hd, hk, fun H4 hc4 k4 => ⟨rfl, ?_⟩⟩
  exact kk x H4 (s1.free nx) (fun b o e => k4 b o (ne_of_none (s1 _ _ e) nx) (by rw [upd_ne (ne_of_none (s1 _ _ e) nx), upd_ne (ne_of_none (s1 _ _ e) ndx)]; exact s1 _ _ e)) hc4
/-! _law_pool -/
def sp_pool (K : PySem.W.Frag) : Sp := fun vs H Q _ => ∃ (a : Addr) (ns : List Int) (k : Int), vs = [.ref a, .int k] ∧ SqL K H a (ns.map V.int) ∧ 0 ≤ k ∧ k ≤ 1000 ∧
  ∀ (p : Addr) (H' : Hp) (z0 z1 : Int), H p = none → Same H H' → H' p = some (.lst [.int z0, .int z1]) → Q (.ref p) H'
theorem ok_pool (T : Tx K mg) : Callee P w K mg base CX0 1 "_law_pool" ["_law_script", "_law_k"] [] (sp_pool K) := by
  refine mkCallee (fd__law_pool T) (mg__law_pool T) sc__law_pool (fun _ _ _ _ _ _ us hl => match us, hl with | [_, _], _ => rfl) (fun vs H Q E h => ?_) (fun cdv A outer s H vs Q E hr h => ?_)
  · obtain ⟨a, ns, k, rfl, _⟩ := h
    rfl
  · obtain ⟨a, ns, k, rfl, hs, k0, k1, kk⟩ := h
    have gi : mg "int" = none := fr_int T
    refine ⟨_, pss_cons (ps_set (i := 2) sc__law_pool.nd rfl (Or.inl rfl) (pe_ifExp (pt_cmpR op_lt (pv 1) (pe_callB call_len (by rfl) (fr_len T) PySem.boot_len (pa_cons (pv 0) pa_nil)) (nomark _))
        (pe_callB (call_max2 rfl) (by rfl) (fr_max T) (by decide +kernel) (pa_cons (pe_callTy call_int1 (by rfl) gi (by decide +kernel) (pa_cons (pe_ix ix_list (pv 0) (pv 1) (fun _ _ => rfl)) pa_nil))
          (pa_cons (pe_callTy call_int1 (by rfl) gi (by decide +kernel) (pa_cons (pe_op op_sub (pe_un un_neg pe_int) (pe_ix ix_list (pv 0) (pv 1) (fun _ _ => rfl))) pa_nil)) pa_nil))) pe_int))
      (pss_cons (ps_set (i := 3) sc__law_pool.nd rfl (Or.inl rfl) (pe_op op_add (pe_op op_modN (pe_callTy call_int1 (by rfl) gi (by decide +kernel) (pa_cons (pe_op op_mul (pe_op op_add (pe_op op_modN (pe_callTy call_int1 (by rfl) gi (by decide +kernel) (pa_cons (pv 2) pa_nil)) pe_int)
        (pe_op op_mul pe_int (pe_op op_add (pv 1) pe_int))) pe_int) pa_nil)) pe_int) pe_int))
      (pss_one (ps_ret (pe_lst (pa_cons (pe_op op_mul (pv 2) (pe_callTy call_int1 (by rfl) gi (by decide +kernel) (pa_cons (pe_cmpR op_ge (pv 2) (pe_op op_pow pe_int pe_int) (nomark _)) pa_nil)))
        (pa_cons (pe_op op_modN (pe_callTy call_int1 (by rfl) gi (by decide +kernel) (pa_cons (pe_op op_mul (pv 3) (pv 3)) pa_nil)) pe_int) pa_nil)))))), ?_⟩
    refine q_asgI (fun R r => ?_) fun z => ?_
    · refine ⟨_, rfl, _, rfl, _, (ns.map V.int).length, rfl, .inl ⟨_, hs, rfl⟩, _, _, rfl, rfl, _, rfl, ?_⟩
      by_cases hk : k < ((ns.map V.int).length : Int)
      · rw [decide_eq_true hk]
        obtain ⟨j, rfl⟩ : ∃ j : Nat, k = (j : Int) := ⟨k.toNat, by omega⟩
        have hj : j < ns.length := by
          rw [List.length_map] at hk
          omega
        have hx : (ns.map V.int)[j]? = some (V.int ns[j]) := by
          rw [List.getElem?_map, List.getElem?_eq_getElem hj]
          rfl
        refine iteT ⟨_, rfl, _, rfl, a, _, _, _, rfl, rfl, hs, at_of (j := j) rfl hx, .inl ⟨_, rfl, _, rfl, _, rfl, _, rfl, a, _, _, _, rfl, rfl, hs, at_of (j := j) rfl hx, _, _, rfl, rfl, .inl ⟨_, rfl, _, _, rfl, r _⟩⟩⟩
      · rw [decide_eq_false hk]
        exact iteF (r 7)
    · refine ⟨_, rfl, .inl ⟨_, rfl, _, _, rfl, rfl, (show (2147483629 : Int) ≠ 0 by decide), _, rfl, _, _, rfl, rfl, _, _, rfl, rfl, .inl ⟨by decide, by decide⟩, _, _, rfl, rfl, _, _, rfl, rfl, .inr ⟨by decide, by decide⟩, .inl ⟨_, rfl, _, _, rfl, rfl, (show (2147483629 : Int) ≠ 0 by decide), _, _, rfl, rfl, ?_⟩⟩⟩
      have m0 := mod_lo (i := (z.fmod 2147483629 + 104729 * (k + 1)) * 48271) (j := 2147483629) (by decide)
      have m1 := mod_hi (i := (z.fmod 2147483629 + 104729 * (k + 1)) * 48271) (j := 2147483629) (by decide)
      refine ⟨_, rfl, _, rfl, _, _, rfl, rfl, ⟨by decide, by decide, by decide⟩, _, _, rfl, rfl, .inr ⟨_, rfl, _, _, rfl, rfl, ?_, _, rfl, _, rfl, _, _, rfl, rfl, .inl ⟨by omega, by omega⟩, .inl ⟨_, rfl, _, _, rfl, rfl, (show (2147483629 : Int) ≠ 0 by decide), (by show 2 ≤ sizeLine; decide), fun p hp => ?_⟩⟩⟩
      · refine .inr ?_
        split
        · exact ⟨by decide, by decide⟩
        · exact ⟨by decide, by decide⟩
      · exact kk p _ _ _ hp (same_new hp) upd_same
/-! _law_draw -/
def sp_draw : Sp := fun vs H Q _ => ∃ (a : Addr) (z0 z1 m : Int), vs = [.ref a, .int m] ∧ H a = some (.lst [.int z0, .int z1]) ∧ 0 < m ∧ m < 1073741824 ∧
  ∀ r y0 y1 : Int, 0 ≤ r → r < m → Q (.int r) (upd H a (.lst [.int y0, .int y1]))
theorem ok_draw (T : Tx K mg) : Callee P w K mg base CX0 1 "_law_draw" ["_law_pool_here", "_law_many"] [] sp_draw := by
  refine mkCallee (fd__law_draw T) (mg__law_draw T) sc__law_draw (fun _ _ _ _ _ _ us hl => match us, hl with | [_, _], _ => rfl) (fun vs H Q E h => ?_) (fun cdv A outer s H vs Q E hr h => ?_)
  · obtain ⟨a, z0, z1, m, rfl, _⟩ := h
    rfl
  · obtain ⟨a, z0, z1, m, rfl, ha, hm, hm2, k⟩ := h
    have gi : mg "int" = none := fr_int T
    refine ⟨_, pss_cons (ps_if (pt_cmpR op_gt (pe_ix ix_list (pv 0) pe_int (fun _ _ => rfl)) pe_int (nomark _))
        (pss_cons (ps_set (i := 2) sc__law_draw.nd rfl (Or.inl rfl) (pe_op op_modN (pe_callTy call_int1 (by rfl) gi (by decide +kernel) (pa_cons (pe_ix ix_list (pv 0) pe_int (fun _ _ => rfl)) pa_nil)) (pv 1)))
        (pss_cons (ps_asg (pe_op op_fdivN (pe_ix ix_list (pv 0) pe_int (fun _ _ => rfl)) (pv 1)) (pg_sub (pv 0) pe_int set_list))
        (pss_one (ps_ret (pv 2))))) pss_nil)
      (pss_cons (ps_asg (pe_op op_modN (pe_callTy call_int1 (by rfl) gi (by decide +kernel) (pa_cons (pe_op op_add (pe_op op_mul (pe_ix ix_list (pv 0) pe_int (fun _ _ => rfl)) pe_int) pe_int) pa_nil)) pe_int) (pg_sub (pv 0) pe_int set_list))
      (pss_one (ps_ret (pe_op op_modN (pe_callTy call_int1 (by rfl) gi (by decide +kernel) (pa_cons (pe_op op_fdivN (pe_op op_modN (pe_callTy call_int1 (by rfl) gi (by decide +kernel)
        (pa_cons (pe_op op_mul (pe_ix ix_list (pv 0) pe_int (fun _ _ => rfl)) (pe_ix ix_list (pv 0) pe_int (fun _ _ => rfl))) pa_nil)) pe_int) pe_int) pa_nil)) (pv 1))))), ?_⟩
    have i0 : atI [V.int z0, V.int z1] 0 = some (V.int z0) := rfl
    have i1 : atI [V.int z0, V.int z1] 1 = some (V.int z1) := rfl
    refine ⟨_, rfl, a, _, _, _, rfl, rfl, sqL_of ha, i0, _, _, rfl, rfl, _, rfl, ?_⟩
    by_cases hz : 0 < z0
    · rw [decide_eq_true hz]
      refine iteT ⟨_, rfl, a, _, _, _, rfl, rfl, sqL_of ha, i0, .inl ⟨_, rfl, _, rfl, _, _, rfl, rfl, (by omega), ?_⟩⟩
      refine ⟨_, rfl, a, _, _, _, rfl, rfl, sqL_of ha, i0, _, rfl, _, _, rfl, rfl, ⟨by omega, by omega⟩, _, rfl, a, _, 0, 0, rfl, rfl, ha, rfl, ?_⟩
      exact ⟨_, rfl, k _ _ _ (mod_lo hm) (mod_hi hm)⟩
    · rw [decide_eq_false hz]
      refine iteF ?_
      refine ⟨_, rfl, a, _, _, _, rfl, rfl, sqL_of ha, i1, _, _, rfl, rfl, .inr ⟨by decide, by decide⟩, _, _, rfl, rfl, .inl ⟨_, rfl, _, _, rfl, rfl, (show (2147483647 : Int) ≠ 0 by decide), ?_⟩⟩
      refine ⟨_, rfl, a, _, 1, 1, rfl, rfl, ha, rfl, ?_⟩
      have hy0 : 0 ≤ (z1 * 48271 + 11).fmod 2147483647 := mod_lo (by decide)
      have hy1 : (z1 * 48271 + 11).fmod 2147483647 < 2147483647 := mod_hi (by decide)
      have u1 : upd H a (.lst ([V.int z0, V.int z1].set 1 (.int ((z1 * 48271 + 11).fmod 2147483647)))) a = some (.lst [.int z0, .int ((z1 * 48271 + 11).fmod 2147483647)]) := upd_same
      have j1 : atI [V.int z0, V.int ((z1 * 48271 + 11).fmod 2147483647)] 1 = some (V.int ((z1 * 48271 + 11).fmod 2147483647)) := rfl
      refine ⟨_, rfl, a, _, _, _, rfl, rfl, sqL_of u1, j1, _, rfl, a, _, _, _, rfl, rfl, sqL_of u1, j1, _, _, rfl, rfl, .inl ⟨by omega, by omega⟩, .inl ⟨_, rfl, _, _, rfl, rfl, (show (2147483629 : Int) ≠ 0 by decide), _, _, rfl, rfl, ⟨by decide, by decide⟩, .inl ⟨_, rfl, _, rfl, _, _, rfl, rfl, (by omega), ?_⟩⟩⟩
      exact k _ _ _ (mod_lo hm) (mod_hi hm)
/-! _law_pick -/
def sp_pick : Sp := fun vs H Q _ => ∃ (a b : Addr) (z0 z1 : Int) (xs : List V), vs = [.ref a, .ref b] ∧ H a = some (.lst [.int z0, .int z1]) ∧ H b = some (.lst xs) ∧ b ≠ a ∧ 0 < xs.length ∧ xs.length < 1000000 ∧
  ∀ (x : V) (y0 y1 : Int), x ∈ xs → Q x (upd H a (.lst [.int y0, .int y1]))
theorem ok_pick (T : Tx K mg) : Callee P w K mg base CX0 2 "_law_pick" ["_law_pool_here", "_law_row"] [] sp_pick := by
  have C1 := ok_draw (P := P) (w := w) (base := base) T
  refine mkCallee (fd__law_pick T) (mg__law_pick T) sc__law_pick (fun _ _ _ _ _ _ us hl => match us, hl with | [_, _], _ => rfl) (fun vs H Q E h => ?_) (fun cdv A outer s H vs Q E hr h => ?_)
  · obtain ⟨a, b, z0, z1, xs, rfl, _⟩ := h
    rfl
  · obtain ⟨a, b, z0, z1, xs, rfl, ha, hb, nb, h0, h1, k⟩ := h
    have gl : mg "len" = none := fr_len T
    refine ⟨_, pss_one (ps_ret (pe_ix ix_list (pv 1) (pcall C1 hr (pa_cons (pv 0) (pa_cons (pe_callB call_len_seq (by rfl) gl PySem.boot_len (pa_cons (pv 1) pa_nil)) pa_nil))) (fun _ _ => rfl))), ?_⟩
    refine ⟨_, rfl, _, rfl, _, rfl, b, xs, rfl, .inl (sqL_of hb), a, z0, z1, _, rfl, ha, (by omega), (by omega), fun r y0 y1 hr0 hr1 => ?_⟩
    obtain ⟨j, rfl⟩ : ∃ j : Nat, r = (j : Int) := ⟨r.toNat, by omega⟩
    have hj : j < xs.length := by omega
    refine ⟨b, xs, _, xs[j], rfl, rfl, sqL_of (by rw [upd_ne nb]; exact hb), at_of (j := j) rfl (List.getElem?_eq_getElem hj), ?_⟩
    exact k _ _ _ (List.getElem_mem hj)
theorem ixN_ok {n : Nat} {i : Int} (h : 0 ≤ i) (h2 : i < n) : ixN n i = some i.toNat := by
  unfold ixN
  rw [if_pos h, if_pos h2]

/-! heaps: all but one place; lists and dicts apart -/
/-- all but what stands at p is as it was -/
def But (p : Addr) (H H' : Hp) : Prop := ∀ b o, b ≠ p → H b = some o → H' b = some o
theorem But.refl (p : Addr) (H : Hp) : But p H H := fun _ _ _ e => e
theorem But.trans {p : Addr} {H H1 H2 : Hp} (a : But p H H1) (b : But p H1 H2) : But p H H2 := fun c o h e => b c o h (a c o h e)
theorem But.of {p : Addr} {H H' : Hp} (s : Same H H') : But p H H' := fun b o _ e => s b o e
theorem But.mut {p : Addr} {H : Hp} {o : HO} : But p H (upd H p o) := fun b u h e => by
  rw [upd_ne h]
  exact e
/-- nothing that stood ahead of p is touched -/
theorem But.same {p : Addr} {H0 H H' : Hp} (b : But p H H') (s : Same H0 H) (n : H0 p = none) : Same H0 H' := fun c o e => b c o (ne_of_none e n) (s c o e)
theorem npool0 {H : Hp} {p l : Addr} {o : HO} (h : H p = some o) (n : H l = none) : l ≠ p := fun e => by
  rw [e, h] at n
  cases n
theorem KeepNL.ofBut {H H' : Hp} {p : Addr} {zs : List V} (h : H p = some (.lst zs)) (b : But p H H') : KeepNL H H' := fun c o n e => b c o (fun q => by rw [q, h] at e; exact n zs (Option.some.inj e).symm) e
/-- all that is neither a list nor a dict is as it was -/
def KeepT (H H' : Hp) : Prop := ∀ b o, (∀ zs, o ≠ HO.lst zs) → (∀ kvs, o ≠ HO.dK kvs) → H b = some o → H' b = some o
theorem KeepT.of {H H' : Hp} (s : Same H H') : KeepT H H' := fun b o _ _ e => s b o e
theorem KeepT.trans {H H1 H2 : Hp} (a : KeepT H H1) (b : KeepT H1 H2) : KeepT H H2 := fun c o n m e => b c o n m (a c o n m e)
theorem KeepT.lst {H : Hp} {D : Addr} {zs : List V} {o : HO} (h : H D = some (.lst zs)) : KeepT H (upd H D o) := fun b o' n _ e => by
  rw [upd_ne (fun q => by rw [q, h] at e; exact n zs (Option.some.inj e).symm)]
  exact e
theorem KeepT.dct {H : Hp} {D : Addr} {kvs : List (Key × V)} {o : HO} (h : H D = some (.dK kvs)) : KeepT H (upd H D o) := fun b o' _ n e => by
  rw [upd_ne (fun q => by rw [q, h] at e; exact n kvs (Option.some.inj e).symm)]
  exact e
theorem KeepT.but {H H' : Hp} {p : Addr} {zs : List V} (h : H p = some (.lst zs)) (b : But p H H') : KeepT H H' := fun c o n _ e => b c o (fun q => by rw [q, h] at e; exact n zs (Option.some.inj e).symm) e
theorem sqT_keepT {K : PySem.W.Frag} {H H' : Hp} {a : Addr} {xs : List V} (s : KeepT H H') (h : SqT K H a xs) : SqT K H' a xs := by
  rcases h with (h | ⟨o, h⟩) | h
  · exact .inl (.inl (s _ _ (fun _ z => by cases z) (fun _ z => by cases z) h))
  · exact .inl (.inr ⟨o, s _ _ (fun _ z => by cases z) (fun _ z => by cases z) h⟩)
  · exact .inr h
theorem sqT_keepNL {K : PySem.W.Frag} {H H' : Hp} {a : Addr} {xs : List V} (s : KeepNL H H') (h : SqT K H a xs) : SqT K H' a xs := by
  rcases h with (h | ⟨o, h⟩) | h
  · exact .inl (.inl (s _ _ (fun _ z => by cases z) h))
  · exact .inl (.inr ⟨o, s _ _ (fun _ z => by cases z) h⟩)
  · exact .inr h
theorem pl_e1 {σ : L2.St} {H : Hp} {X : TE} {r : List V → Hp → VK → Prop} {Q : VK} (h : X σ H fun v H1 => r [v] H1 Q) : tCB r (tCons X tNil) σ H Q := h
theorem pl_op {σ : L2.St} {H : Hp} {ta tb : TE} {r : V → V → Hp → VK → Prop} {Q : VK} (h : ta σ H fun x H1 => tb σ H1 fun y H2 => r x y H2 Q) : tOp r ta tb σ H Q := h
theorem at_zero {xs : List V} {v : V} (h : xs[0]? = some v) : atI xs 0 = some v := by
  have hj := (List.getElem?_eq_some_iff.mp h).1
  unfold atI
  rw [ixN_ok (by omega) (by omega)]
  exact h
theorem refs_no {as : List Addr} {a b : Int} : ¬ as.map V.ref = [.int a, .int b] := fun e => by
  cases as with
  | nil => cases e
  | cons x xs => cases (List.cons.inj e).1
theorem lref_at {as : List Addr} {j : Nat} {a : Addr} (h : as[j]? = some a) : atI (as.map V.ref) ((j : Nat) : Int) = some (.ref a) := by
  have hj := (List.getElem?_eq_some_iff.mp h).1
  unfold atI
  rw [ixN_ok (by omega) (by rw [List.length_map]; omega)]
  show (as.map V.ref)[j]? = _
  rw [List.getElem?_map, h]
  rfl

/-! values to a greatest -/
theorem valsTo_in {g : Int} {v : V} (h : v ∈ valsTo g) : isIn g v = true := by
  unfold valsTo at h
  rcases List.mem_cons.mp h with rfl | h
  · rfl
  · unfold rgV at h
    obtain ⟨i, hi, rfl⟩ := List.mem_map.mp h
    rw [List.mem_range] at hi
    show (decide ((0 : Int) ≤ 0 + (i : Int)) && decide ((0 : Int) + (i : Int) ≤ g)) = true
    rw [Bool.and_eq_true]
    exact ⟨decide_eq_true (by omega), decide_eq_true (by omega)⟩
theorem in_vals {g : Int} {v : V} (h : isIn g v = true) : v ∈ valsTo g := by
  cases v with
  | non => exact List.mem_cons_self
  | int u =>
    have h : (decide (0 ≤ u) && decide (u ≤ g)) = true := h
    rw [Bool.and_eq_true] at h
    have g0 := of_decide_eq_true h.1
    have g1 := of_decide_eq_true h.2
    refine List.mem_cons_of_mem _ (List.mem_map.mpr ⟨u.toNat, List.mem_range.mpr (by omega), ?_⟩)
    rw [show (0 : Int) + (u.toNat : Nat) = u by omega]
  | _ => cases h

/-! _law_value -/
def sp_value (m0 : Int) : Sp := fun vs H Q _ => ∃ (p : Addr) (z0 z1 m : Int), vs = [.ref p, .int m] ∧ H p = some (.lst [.int z0, .int z1]) ∧ 0 ≤ m ∧ m ≤ m0 ∧
  ∀ (v : V) (y0 y1 : Int) (H' : Hp), isIn m v = true → But p H H' → H' p = some (.lst [.int y0, .int y1]) → Q v H'
theorem ok_value (T : Tx K mg) : Callee P w K mg base CX0 3 "_law_value" ["_law_pool_here", "_law_most"] [] (sp_value 1000) := by
  have C1 := ok_pick (P := P) (w := w) (base := base) T
  refine mkCallee (fd__law_value T) (mg__law_value T) sc__law_value (fun _ _ _ _ _ _ us hl => match us, hl with | [_, _], _ => rfl) (fun vs H Q E h => ?_) (fun cdv A outer s H vs Q E hr h => ?_)
  · obtain ⟨p, z0, z1, m, rfl, _⟩ := h
    rfl
  · obtain ⟨p, z0, z1, m, rfl, hp, h0, h1, k⟩ := h
    refine ⟨_, pss_one (ps_ret (pcall C1 hr (pa_cons (pv 0) (pa_cons (pe_op op_cat (pe_lst (pa_cons pe_non pa_nil)) (pe_listRg rfl (by rfl) (fr_list T) (prg_1 (by rfl) (fr_range T) (pe_op op_add (pv 1) pe_int)))) pa_nil)))), ?_⟩
    refine ⟨_, rfl, (by show 1 ≤ sizeLine; decide), fun l nl => ⟨_, rfl, _, _, rfl, rfl, _, rfl, .of_le (by omega) (by omega) (by omega) (by omega), fun q nq => ?_⟩⟩
    refine ⟨l, q, _, _, rfl, rfl, same_new nq _ _ upd_same, upd_same, ?_, fun c nc => ?_⟩
    · rw [rgV_length]
      have e : sizeLine = 16777216 := by decide
      rw [e]
      show 1 + (m + 1 - 0).toNat ≤ _
      omega
    have s3 := ((same_new (o := .lst [.non]) nl).trans (same_new (o := .lst (rgV 0 (m + 1))) nq)).trans (same_new (o := .lst ([V.non] ++ rgV 0 (m + 1))) nc)
    have hp3 := s3 _ _ hp
    have ncp : c ≠ p := fun e => by
      have h2 := ((same_new (o := .lst [.non]) nl).trans (same_new (o := .lst (rgV 0 (m + 1))) nq)) _ _ hp
      rw [← e, nc] at h2
      cases h2
    refine ⟨p, c, z0, z1, valsTo m, rfl, hp3, upd_same, ncp, ?_, ?_, fun v y0 y1 hv => k v y0 y1 _ (valsTo_in hv) ((But.of s3).trans But.mut) upd_same⟩
    · unfold valsTo
      rw [List.length_cons]
      omega
    · unfold valsTo
      rw [List.length_cons, rgV_length]
      omega
/-! own errors that keep one argument: made, raised -/
/-- what such an __init__ does -/
def sp_keep1 (K : PySem.W.Frag) (x f : Str) : Sp := fun vs H Q _ => ∃ (a : Addr) (v : V), vs = [.ref a, v] ∧ H a = some (exo a (He.ga K x) none) ∧
  ∀ dx, H dx = none → dx ≠ a → Q .non (upd (upd H dx (exd dx [(f, v)])) a (exo a (He.ga K x) (some dx)))
/-- raise C(e) -/
def tRaise1 (K : PySem.W.Frag) (x f : Str) (W : WX) (te : TE) : TS := fun _ σ H => te σ H fun v H1 => ∀ d, H1 d = none → W (.ref (He.ga K x)) (some d) σ (upd H1 d (.xd [(f, v)]))
section
variable {X : Cx}
/-- an expression's reading, weakened -/
theorem pe_mono {e : Expr} {te : TE} (he : PE X e te) : PE X e (fun σ H Q => ∃ R : VK, te σ H R ∧ ∀ v H1, R v H1 → Q v H1) := by
  refine ⟨fun pins s σ H Q I h => ?_⟩
  obtain ⟨R, h1, h2⟩ := h
  exact thn (he.run pins s σ H _ I h1) fun u s1 ⟨x, H1, I1, rx, q⟩ => ⟨x, H1, I1, rx, h2 x H1 q⟩
theorem ps_raise1 {x f : Str} {W : WX} {e : Expr} {te : TE} {k : Nat} {fd : FuncData} {ps : List Str} {p pos pos2 : Pos} (hc : X.calm = true) (tk : Takes X W) (T : OexF X.K x f) (F1 : FnOk X.prog X.w X.K X.mg X.base CX0 k (He.ma X.K (He.ga X.K x) "__init__") fd ps (sp_keep1 X.K x f)) (hr : Room (k + 1) X.A) (hb : Binds X.K fd ps [])
    (hm : X.mg x = some (.ref (He.ga X.K x))) (he : PE X e te) (hg : Gl X x := by rfl) (hdb : (x == ("__debug__" : Str)) = false := by decide) (hst : starEach (e :: []) X.env = (false, eval e X.env) :: starEach [] X.env := by rfl) (hpl : (backTo pos (starEach [] X.env)).any (·.1) = false := by rfl) :
    PS X (.Raise (some (.Call (.Name x p) [e] [] pos)) none pos2) (tRaise1 X.K x f W te) := by
  refine ⟨fun pins s σ H D I h => ?_⟩
  have F2 : FnOk X.prog X.w X.K X.mg X.base CX0 k (He.ma X.K (He.ga X.K x) "__init__") fd ps (sp_keep1 X.K x f) := F1
  refine (ps_raise hc tk (pmk_oex T.o T.i T.ti F2 hr hb .nil (fun _ _ _ _ _ _ _ z => z.elim) hg hm (pa_cons (hs := hst) (pe_mono he) pa_nil) hdb hst hpl)).run pins s σ H D I ?_
  refine ⟨_, h, fun v H1 q => ⟨by show 1 ≤ 1000; decide, fun a ha => ⟨a, v, rfl, upd_same, fun dx ndx ne => ⟨rfl, dx, [(f, v)], upd_same, ?_, ?_, ?_⟩⟩⟩⟩
  · rw [upd_ne ne, upd_same]
  · rw [upd_ne ne] at ndx
    exact ndx
  · rw [upd_ne ne] at ndx
    have e1 : upd (del (upd (upd (upd H1 a (exo a (He.ga X.K x) none)) dx (exd dx [(f, v)])) a (exo a (He.ga X.K x) (some dx))) a) dx (.xd [(f, v)]) = upd H1 dx (.xd [(f, v)]) := by
      funext b
      by_cases hb : b = dx
      · rw [hb, upd_same, upd_same]
      · rw [upd_ne hb, upd_ne hb]
        by_cases hq : b = a
        · rw [hq, del_same, ha]
        · rw [del_ne hq, upd_ne hq, upd_ne hb, upd_ne hq]
    rw [e1]
    exact q dx ndx
end
theorem takesE {X : Cx} {E : XK} (hs : X.stack = X.env :: X.outer) (hf : X.env.frame = some X.env.locals) (hex : X.ex = []) {E₁ : Value → Shared → Prop}
    (hx : X.xe = fun e s' => wpAny (model X.prog X.w) X.A (leaving X.env e) (fun _ s'' => L2.CX X.prog X.w X.outer X.H_0 X.s_0 E e s'') E₁ s') : Takes X (fun cls d _ H => E cls d H) := takes_of hs hf hex hx
/-- what a called def lets out, this one lets out -/
theorem passE {X : Cx} {E : XK} (tk : Takes X (fun cls d _ H' => E cls d H')) : Passes (L2.CX X.prog X.w) X E := fun pins σ H s e s' I c => passAt tk σ pins H s e s' I c

theorem ok_BadPart_init (T : Tx K mg) : ∃ fd, FnOk P w K mg base CX0 1 (He.ma K (He.ga K "BadPart") "__init__") fd ["self", "part"] (sp_keep1 K "BadPart" "part") ∧ Binds K fd ["self", "part"] [] := by
  have ox := oexB_ok (ex_BadPart_x T)
  refine mkMeth (fd_BadPart___init__ T) sc_BadPart___init__ (fun _ _ _ _ _ _ us hl => match us, hl with | [_, _], _ => rfl) (fun vs H Q E h => ?_) (fun cdv A outer s H vs Q E hr h => ?_)
  · obtain ⟨a, v, rfl, _⟩ := h
    rfl
  obtain ⟨a, v, rfl, ha, k⟩ := h
  exact ⟨_, pss_one (ps_ost (pv 0) (pv 1)), _, rfl, _, rfl, a, _, rfl, ox.o, ox.no, .inl ⟨ha, fun dx nd ne => k dx nd ne⟩⟩
-- needs: Column.__init__ BadPart.__init__ +RAISE +REPV
/-! Column.__init__ at any values: the first part that is wrong is told -/
def badC (n g d k : V) : Option Str := if isNm n = false then some "name" else if isGr g = false then some "greatest" else if (match g with
  | .int j => isIn j d
  | _ => false) = false then some "default" else if (match k with
  | .int j => decide (0 ≤ j)
  | _ => false) = false then some "number" else none
def TyAll (K : PySem.W.Frag) (H : Hp) (x : V) : Prop := ∃ t, ∀ H', Same H H' → TyX K H' x (.type t)
def sp_Col_initX (K : PySem.W.Frag) : Sp := fun vs H Q E => ∃ (c dx : Addr) (n g d k : V), vs = [.ref c, n, g, d, k] ∧ H c = some (.ins (He.ga K "Column") dx []) ∧ TyAll K H n ∧ TyAll K H g ∧ TyAll K H d ∧ TyAll K H k ∧ (∀ z, n = .str z → z.length ≤ 1000) ∧
  (∀ (n0 : Str) (g0 k0 : Int) (H' : Hp), n = .str n0 → g = .int g0 → k = .int k0 → badC n g d k = none → ColAt K H' c n0 g0 d k0 → (∀ b o, b ≠ c → H b = some o → H' b = some o) → Q .non H') ∧
  ∀ (p : Str) (e : Addr) (H' : Hp), badC n g d k = some p → Same H H' → H' e = some (.xd [("part", .str p)]) → E (.ref (He.ga K "BadPart")) (some e) H'
theorem isI_int {k : V} (h : isI k = true) : ∃ j, k = .int j := by
  cases k with
  | int j => exact ⟨j, rfl⟩
  | _ => cases h
theorem ok_Col_initX (T : Tx K mg) : ∃ fd, FnOk P w K mg base (L2.CX P w) 4 (He.ma K (He.ga K "Column") "__init__") fd ["self", "name", "greatest", "default", "number"] (sp_Col_initX K) ∧
    FunD K "__init__" "Column.__init__" (defArgs s_Column___init__) (defBody s_Column___init__) (defScope s_Column___init__) (d_Column___init__.dvs K) (d_Column___init__.kws K) (He.ma K (He.ga K "Column") "__init__") fd := by
  have C1 := (ok_is_name (P := P) (w := w) (base := base) T).up (show 1 ≤ 3 by decide)
  have C2 := (ok_is_greatest (P := P) (w := w) (base := base) T).up (show 2 ≤ 3 by decide)
  have C3 := ok_is_within (P := P) (w := w) (base := base) T
  have C4 := (ok_is_whole (P := P) (w := w) (base := base) T).up (show 1 ≤ 3 by decide)
  obtain ⟨fdE, FE, bE⟩ := ok_BadPart_init (P := P) (w := w) (base := base) T
  have ox := oexB_ok (ex_BadPart_x T)
  obtain ⟨fd, F⟩ := fd_Column___init__ T
  refine ⟨fd, F.ok (CX := L2.CX P w) sc_Column___init__ (fun vs H Q E h => ?_) (fun cdv A outer s H vs Q E hr h => ?_), F⟩
  · obtain ⟨c, dx, n, g, d, k, rfl, _⟩ := h
    rfl
  obtain ⟨c, dx, n, g, d, k, rfl, hc, tn, tg, td, tk, hn0, kQ, kE⟩ := h
  have cl := cl_Column T
  have hr2 : Room 2 _ := hr.mono (by decide)
  refine ⟨_, pss_cons (ps_if (pt_not (pt_val (pcall C1 hr (pa_cons (pv 1) pa_nil)))) (pss_one (ps_raise1 (f := "part") rfl (takes_of rfl rfl rfl rfl) ox FE hr2 bE (mg_BadPart T) pe_str)) pss_nil)
    (pss_cons (ps_if (pt_not (pt_val (pcall C2 hr (pa_cons (pv 2) pa_nil)))) (pss_one (ps_raise1 (f := "part") rfl (takes_of rfl rfl rfl rfl) ox FE hr2 bE (mg_BadPart T) pe_str)) pss_nil)
    (pss_cons (ps_if (pt_not (pt_val (pcall C3 hr (pa_cons (pv 3) (pa_cons (pv 2) pa_nil))))) (pss_one (ps_raise1 (f := "part") rfl (takes_of rfl rfl rfl rfl) ox FE hr2 bE (mg_BadPart T) pe_str)) pss_nil)
    (pss_cons (ps_if (PW.pt (pw_or (pt_not (pt_val (pcall C4 hr (pa_cons (pv 4) pa_nil)))) (pw_or1 (pt_cmpR op_lt (pv 4) pe_int (nomark _))))) (pss_one (ps_raise1 (f := "part") rfl (takes_of rfl rfl rfl rfl) ox FE hr2 bE (mg_BadPart T) pe_str)) pss_nil)
    (pss_cons (ps_fld (pv 0) (pv 1) rfl) (pss_cons (ps_fld (pv 0) (pv 2) rfl) (pss_cons (ps_fld (pv 0) (pv 3) rfl) (pss_one (ps_fld (pv 0) (pv 4) rfl)))))))), ?_⟩
  obtain ⟨t1, tn⟩ := tn
  obtain ⟨t2, tg⟩ := tg
  obtain ⟨t3, td⟩ := td
  obtain ⟨t4, tk⟩ := tk
  refine ⟨_, rfl, n, t1, rfl, tn _ (Same.refl _), hn0, fun H1 s1 => ⟨_, rfl, ?_⟩⟩
  cases b1 : isNm n with
  | false =>
    refine iteT fun e ne => kE "name" e _ ?_ (s1.trans (same_new ne)) upd_same
    unfold badC
    rw [if_pos b1]
  | true =>
    refine iteF ⟨_, rfl, g, t2, rfl, tg _ s1, _, rfl, ?_⟩
    cases b2 : isGr g with
    | false =>
      refine iteT fun e ne => kE "greatest" e _ ?_ (s1.trans (same_new ne)) upd_same
      unfold badC
      rw [if_neg (by rw [b1]; decide), if_pos b2]
    | true =>
      have hg : ∃ j, g = .int j := by
        cases g with
        | int j => exact ⟨j, rfl⟩
        | _ => cases b2
      obtain ⟨g0, rfl⟩ := hg
      refine iteF ⟨_, rfl, _, rfl, d, g0, t3, rfl, td _ s1, _, rfl, ?_⟩
      cases b3 : isIn g0 d with
      | false =>
        refine iteT fun e ne => kE "default" e _ ?_ (s1.trans (same_new ne)) upd_same
        unfold badC
        rw [if_neg (by rw [b1]; decide), if_neg (by rw [b2]; decide), if_pos b3]
      | true =>
        refine iteF ⟨_, rfl, k, t4, rfl, tk _ s1, _, rfl, ?_⟩
        cases b4 : isI k with
        | false =>
          refine iteT fun e ne => kE "number" e _ ?_ (s1.trans (same_new ne)) upd_same
          unfold badC
          rw [if_neg (by rw [b1]; decide), if_neg (by rw [b2]; decide), if_neg (by show ¬ isIn g0 d = false; rw [b3]; decide), if_pos]
          cases k with
          | int j => cases b4
          | _ => rfl
        | true =>
          obtain ⟨k0, rfl⟩ := isI_int b4
          refine iteF ⟨_, rfl, _, _, rfl, rfl, _, rfl, ?_⟩
          by_cases b5 : k0 < 0
          · rw [decide_eq_true b5]
            refine iteT fun e ne => kE "number" e _ ?_ (s1.trans (same_new ne)) upd_same
            unfold badC
            rw [if_neg (by rw [b1]; decide), if_neg (by rw [b2]; decide), if_neg (by show ¬ isIn g0 d = false; rw [b3]; decide), if_pos (decide_eq_false (by omega))]
          · rw [decide_eq_false b5]
            refine iteF ?_
            have hn : ∃ z, n = .str z := by
              cases n with
              | str z => exact ⟨z, rfl⟩
              | _ => cases b1
            obtain ⟨n0, rfl⟩ := hn
            have hc1 := s1 _ _ hc
            refine ⟨_, rfl, _, rfl, c, _, dx, _, rfl, hc1, cl, na_Column_name T, (by show 0 < 1000; decide), ?_⟩
            refine ⟨_, rfl, _, rfl, c, _, dx, _, rfl, upd_same, cl, na_Column_greatest T, (by show 1 < 1000; decide), ?_⟩
            refine ⟨_, rfl, _, rfl, c, _, dx, _, rfl, upd_same, cl, na_Column_default T, (by rw [put2]; show 2 < 1000; decide), ?_⟩
            refine ⟨_, rfl, _, rfl, c, _, dx, _, rfl, upd_same, cl, na_Column_number T, (by rw [put3]; show 3 < 1000; decide), ?_⟩
            refine kQ n0 g0 k0 _ rfl rfl rfl ?_ ⟨dx, ?_⟩ fun b o hb e => by rw [upd_ne hb, upd_ne hb, upd_ne hb, upd_ne hb]; exact s1 _ _ e
            · unfold badC
              rw [if_neg (by rw [b1]; decide), if_neg (by rw [b2]; decide), if_neg (by show ¬ isIn g0 d = false; rw [b3]; decide), if_neg (by show ¬ decide (0 ≤ k0) = false; rw [decide_eq_true (by omega)]; decide)]
            · rw [upd_same, colFs_eq]

-- needs: Column.changed is_word +COLX
/-! Column.changed at any values -/
/-- the clause of a catcher, whatever the local names hold -/
theorem passAll {X : Cx} {W : WX} (tk : Takes X W) : Passes (L2.CX X.prog X.w) X (fun cls d H => ∀ σ : L2.St, σ.length = X.N.length → W cls d σ H) := fun pins σ H s e s' I c => by
  obtain ⟨a, B, H', cls, d, r1, r2, r3, r4, r5, r6, r7, r8⟩ := c
  exact passAt tk σ pins H s e s' I ⟨a, B, H', cls, d, r1, r2, r3, r4, r5, r6, r7, r8 σ I.len⟩
abbrev P4 : List V := [.str "name", .str "greatest", .str "default", .str "number"]
def fourF (p : Str) (v n g d k : V) : V × V × V × V := if p = "name" then (v, g, d, k) else if p = "greatest" then (n, v, d, k) else if p = "default" then (n, g, v, k) else (n, g, d, v)
theorem four_of {p : Str} (v n g d k : V) (h : wordV (.str p) P4 = true) : Four p v n g d k (fourF p v n g d k).1 (fourF p v n g d k).2.1 (fourF p v n g d k).2.2.1 (fourF p v n g d k).2.2.2 := by
  refine ⟨?_, rfl⟩
  have h : inV (.str p) P4 = true := h
  unfold inV at h
  obtain ⟨y, hy, e⟩ := List.any_eq_true.mp h
  rcases List.mem_cons.mp hy with rfl | hy
  · exact .inl (eq_of_beq (show (("name" : Str) == p) = true from e)).symm
  rcases List.mem_cons.mp hy with rfl | hy
  · exact .inr (.inl (eq_of_beq (show (("greatest" : Str) == p) = true from e)).symm)
  rcases List.mem_cons.mp hy with rfl | hy
  · exact .inr (.inr (.inl (eq_of_beq (show (("default" : Str) == p) = true from e)).symm))
  rcases List.mem_cons.mp hy with rfl | hy
  · exact .inr (.inr (.inr (eq_of_beq (show (("number" : Str) == p) = true from e)).symm))
  · cases hy
def sp_changedX (K : PySem.W.Frag) : Sp := fun vs H Q E => ∃ (c : Addr) (part v : V) (n : Str) (g k : Int) (d : V), vs = [.ref c, part, v] ∧ ColAt K H c n g d k ∧ n.length ≤ 1000 ∧ TyAll K H part ∧ TyAll K H v ∧ TyAll K H d ∧ (∀ z, v = .str z → z.length ≤ 1000) ∧
  (∀ (e : Addr) (H' : Hp), wordV part P4 = false → Same H H' → H' e = some (.xd [("part", part)]) → E (.ref (He.ga K "BadPart")) (some e) H') ∧
  ∀ (p : Str), part = .str p → wordV part P4 = true → ∀ (n' g' d' k' : V), fourF p v (.str n) (.int g) d (.int k) = (n', g', d', k') →
    (∀ (a : Addr) (n0 : Str) (g0 k0 : Int) (H' : Hp), n' = .str n0 → g' = .int g0 → k' = .int k0 → badC n' g' d' k' = none → H a = none → Same H H' → ColAt K H' a n0 g0 d' k0 → Q (.ref a) H') ∧
    ∀ (q : Str) (e : Addr) (H' : Hp), badC n' g' d' k' = some q → Same H H' → H' e = some (.xd [("part", .str q)]) → E (.ref (He.ga K "BadPart")) (some e) H'
theorem TyAll.keep {K : PySem.W.Frag} {H H' : Hp} {x : V} (s : Same H H') (h : TyAll K H x) : TyAll K H' x := by
  obtain ⟨t, h⟩ := h
  exact ⟨t, fun H2 s2 => h H2 (s.trans s2)⟩
theorem tyAll_str {K : PySem.W.Frag} {H : Hp} (z : Str) : TyAll K H (.str z) := ⟨_, fun _ _ => .base (.str z)⟩
theorem tyAll_int {K : PySem.W.Frag} {H : Hp} (z : Int) : TyAll K H (.int z) := ⟨_, fun _ _ => .base (.int z)⟩
theorem tyAll_non {K : PySem.W.Frag} {H : Hp} : TyAll K H .non := ⟨_, fun _ _ => .base .non⟩
theorem tyAll_bl {K : PySem.W.Frag} {H : Hp} (b : Bool) : TyAll K H (.bl b) := ⟨_, fun _ _ => .base (.bl b)⟩
theorem ok_changedX (T : Tx K mg) : ∃ fd, FnOk P w K mg base (L2.CX P w) 6 (He.ma K (He.ga K "Column") "changed") fd ["self", "part", "value"] (sp_changedX K) ∧ Binds K fd ["self", "part", "value"] [] := by
  obtain ⟨fdI, GI, FI⟩ := ok_Col_initX (P := P) (w := w) (base := base) T
  obtain ⟨_, _, kb⟩ := kbinds_Col T FI
  obtain ⟨fdE, FE, bE⟩ := ok_BadPart_init (P := P) (w := w) (base := base) T
  have ox := oexB_ok (ex_BadPart_x T)
  obtain ⟨fd, F⟩ := fd_Column_changed T
  have cl := cl_Column T
  refine ⟨fd, F.ok (CX := L2.CX P w) sc_Column_changed (fun vs H Q E h => ?_) (fun cdv A outer s H vs Q E hr h => ?_), F.bindsN fun _ _ _ _ _ _ us hl => match us, hl with | [_, _, _], _ => rfl⟩
  · obtain ⟨c, part, v, n, g, k, d, rfl, _⟩ := h
    rfl
  obtain ⟨c, part, v, n, g, k, d, rfl, ⟨dx, hc⟩, hnl, tp, tv, td, hvl, kW, kF⟩ := h
  have nd := sc_Column_changed.nd
  have hu := hu_of hr
  have hr2 : Room 2 _ := hr.mono (by decide)
  have CW := (ok_is_word (P := P) (w := w) (base := base) T).up (show 1 ≤ 5 by decide)
  refine ⟨_, pss_cons (ps_if (pt_not (pt_val (pcall CW hr (pa_cons (pv 1) (pa_cons (pe_glob (v := .ref (He.ga K "PARTS")) (by rfl) (mg_PARTS T) rfl) pa_nil))))) (pss_one (ps_raise1 (f := "part") rfl (takes_of rfl rfl rfl rfl) ox FE hr2 bE (mg_BadPart T) (pv 1))) pss_nil)
    (pss_cons (ps_set (i := 3) nd rfl (Or.inl rfl) (pe_disp (pps_cons pe_str (pe_fld (pv 0) rfl) (pps_cons pe_str (pe_fld (pv 0) rfl) (pps_cons pe_str (pe_fld (pv 0) rfl) (pps_cons pe_str (pe_fld (pv 0) rfl) pps_nil)))) (by rfl) (by rfl) (fun z => by cases z) (by decide)))
    (pss_cons (ps_dput hu (pv 3) (pv 1) (pv 2) rfl)
    (pss_one (ps_ret (pe_makeK (mk_Column T) GI hr (by rfl) (mg_Column T) kb (passE (takes_of rfl rfl rfl rfl)) (pa_cons (pe_dget hu (pv 3) pe_str (fun _ _ => rfl)) (pa_cons (pe_dget hu (pv 3) pe_str (fun _ _ => rfl)) (pa_cons (pe_dget hu (pv 3) pe_str (fun _ _ => rfl)) pa_nil)))
      (pk_cons (pe_dget hu (pv 3) pe_str (fun _ _ => rfl)) pk_nil)))))), ?_⟩
  have hP : SqT K H (He.ga K "PARTS") P4 := He.tupB_ok (ex_PARTS T) H
  obtain ⟨t1, tp1⟩ := id tp
  refine ⟨_, rfl, part, t1, _, _, rfl, tp1 _ (Same.refl _), hP, rfl, _, rfl, ?_⟩
  cases hw : wordV part P4 with
  | false => exact iteT ⟨_, rfl, fun e ne => kW e _ hw (same_new ne) upd_same⟩
  | true =>
    have hp : ∃ p, part = .str p := by
      cases part with
      | str p => exact ⟨p, rfl⟩
      | _ => cases hw
    obtain ⟨p0, rfl⟩ := hp
    refine iteF (nxt ?_)
    have f4 := four_of v (.str n) (.int g) d (.int k) hw
    obtain ⟨⟨n', g', d', k'⟩, e4⟩ : ∃ q : V × V × V × V, fourF p0 v (.str n) (.int g) d (.int k) = q := ⟨_, rfl⟩
    obtain ⟨kQ, kE⟩ := kF p0 rfl hw n' g' d' k' e4
    have htys : TyAll K H (fourF p0 v (.str n) (.int g) d (.int k)).1 ∧ TyAll K H (fourF p0 v (.str n) (.int g) d (.int k)).2.1 ∧ TyAll K H (fourF p0 v (.str n) (.int g) d (.int k)).2.2.1 ∧ TyAll K H (fourF p0 v (.str n) (.int g) d (.int k)).2.2.2 ∧ (∀ z, (fourF p0 v (.str n) (.int g) d (.int k)).1 = .str z → z.length ≤ 1000) := by
      have hn : ∀ z, V.str n = .str z → z.length ≤ 1000 := fun z e => by cases e; exact hnl
      unfold fourF
      split
      · exact ⟨tv, tyAll_int g, td, tyAll_int k, hvl⟩
      · split
        · exact ⟨tyAll_str n, tv, td, tyAll_int k, hn⟩
        · split
          · exact ⟨tyAll_str n, tyAll_int g, tv, tyAll_int k, hn⟩
          · exact ⟨tyAll_str n, tyAll_int g, td, tv, hn⟩
    rw [e4] at f4 htys
    obtain ⟨y1, y2, y3, y4, y5⟩ := htys
    refine fun p np => ?_
    have hc1 : ∀ o, upd H p o c = some (.ins (He.ga K "Column") dx (colFs n g d k)) := fun o => same_new np _ _ hc
    refine ⟨_, rfl, c, _, dx, _, _, rfl, hc1 _, cl, na_Column_name T, colFs_name, _, rfl, c, _, dx, _, _, rfl, hc1 _, cl, na_Column_greatest T, colFs_greatest, _, rfl, c, _, dx, _, _, rfl, hc1 _, cl, na_Column_default T, colFs_default,
      _, rfl, c, _, dx, _, _, rfl, hc1 _, cl, na_Column_number T, colFs_number, upd_same, [(Sum.inr "name", .str n), (Sum.inr "greatest", .int g), (Sum.inr "default", d), (Sum.inr "number", .int k)], rfl, (by show 4 ≤ 15; decide), ?_⟩
    rw [upd_upd, merge4]
    refine ⟨_, rfl, _, rfl, _, rfl, p, _, rfl, DPut.k (k := Sum.inr p0) upd_same (by show 4 < sizeLine; decide), ?_⟩
    rw [upd_upd]
    obtain ⟨q1, q2, q3, q4⟩ := put_get f4
    have hp : upd H p (.dK (put p0 v (.str n) (.int g) d (.int k))) p = some (.dK (put p0 v (.str n) (.int g) d (.int k))) := upd_same
    have s1 : Same H (upd H p (.dK (put p0 v (.str n) (.int g) d (.int k)))) := same_new np
    have g1 : DGet (upd H p (.dK (put p0 v (.str n) (.int g) d (.int k)))) p (.str "name") (some n') := by
      rw [← q1]
      exact DGet.k (k := Sum.inr "name") hp
    have g2 : DGet (upd H p (.dK (put p0 v (.str n) (.int g) d (.int k)))) p (.str "greatest") (some g') := by
      rw [← q2]
      exact DGet.k (k := Sum.inr "greatest") hp
    have g3 : DGet (upd H p (.dK (put p0 v (.str n) (.int g) d (.int k)))) p (.str "default") (some d') := by
      rw [← q3]
      exact DGet.k (k := Sum.inr "default") hp
    have g4 : DGet (upd H p (.dK (put p0 v (.str n) (.int g) d (.int k)))) p (.str "number") (some k') := by
      rw [← q4]
      exact DGet.k (k := Sum.inr "number") hp
    refine ⟨_, rfl, p, _, rfl, g1, _, rfl, p, _, rfl, g2, _, rfl, p, _, rfl, g3, _, rfl, p, _, rfl, g4, rfl, rfl, fun x dx2 nx ndx ndc => ?_⟩
    have s2 := s1.trans (show Same _ (upd (upd (upd H p (.dK (put p0 v (.str n) (.int g) d (.int k)))) dx2 (.own x)) x (.ins (He.ga K "Column") dx2 [])) from fun b o e => by rw [upd_ne (ne_of_none e nx), upd_ne (ne_of_none e ndx)]; exact e)
    refine ⟨x, dx2, n', g', d', k', rfl, upd_same, y1.keep s2, y2.keep s2, y3.keep s2, y4.keep s2, y5, fun n0 g0 k0 H4 e1 e2 e3 eb hc4 k4 => ⟨rfl, ?_⟩, fun q e H4 eb s4 he => kE q e H4 eb (s2.trans s4) he⟩
    exact kQ x n0 g0 k0 H4 e1 e2 e3 eb (s1.free nx) (fun b o e => k4 b o (ne_of_none (s1 _ _ e) nx) (s2 _ _ e)) hc4

/-! _law_told of K02: the part of BadPart that a Column of such values raises, or None -/
def badV (n g d k : V) : V := match badC n g d k with
  | some p => .str p
  | none => .non
def sp_told2 (K : PySem.W.Frag) : Sp := fun vs H Q _ => ∃ (l : Addr) (n g d k : V), vs = [.ref l] ∧ SqL K H l [n, g, d, k] ∧ TyAll K H n ∧ TyAll K H g ∧ TyAll K H d ∧ TyAll K H k ∧ (∀ z, n = .str z → z.length ≤ 1000) ∧ ∀ H', Same H H' → Q (badV n g d k) H'
theorem ok_told2 (T : Tx K mg) : Callee P w K mg base CX0 6 "_law_told" ["_law_some"] [] (sp_told2 K) := by
  obtain ⟨fdI, GI, FI⟩ := ok_Col_initX (P := P) (w := w) (base := base) T
  obtain ⟨_, _, kb⟩ := kbinds_Col T FI
  have ox := oexB_ok (ex_BadPart_x T)
  refine mkCallee (fd__law_told T) (mg__law_told T) sc__law_told (fun _ _ _ _ _ _ us hl => match us, hl with | [_], _ => rfl) (fun vs H Q E h => ?_) (fun cdv A outer s H vs Q E hr h => ?_)
  · obtain ⟨l, n, g, d, k, rfl, _⟩ := h
    rfl
  obtain ⟨l, n, g, d, k, rfl, hl, tn, tg, td, tk, hn, kk⟩ := h
  have nd := sc__law_told.nd
  refine ⟨_, pss_cons (ps_asg (pv 0) (pg_lst rfl (pgs_cons (pg_name (i := 1) nd rfl (Or.inl rfl)) (pgs_cons (pg_name (i := 2) nd rfl (Or.inl rfl)) (pgs_cons (pg_name (i := 3) nd rfl (Or.inl rfl)) (pgs_cons (pg_name (i := 4) nd rfl (Or.inl rfl)) pgs_nil))))))
    (pss_cons (ps_try_as (i := 5) (tb := fun W => tDrop (tMakeK (He.ga K "Column") 3 1 (sp_Col_initX K) (fun vs zs => vs ++ zs) (fun cls d H => ∀ σ : L2.St, σ.length = (["_law_some", "_law_name", "_law_top", "_law_given", "_law_seat", "e"] : List Str).length → W cls d σ H) (tCons (tVar 1) (tCons (tVar 2) (tCons (tVar 3) tNil))) (tCons (tVar 4) tNil))) (ts := fun a cls d => tRet (tXf a cls d (He.ga K "BadPart") "part" (tVar 5))) (Wout := fun _ _ _ _ => False) rfl rfl nd rfl rfl ⟨rfl, by decide, Or.inl (mg_BadPart T)⟩ takes0
          (fun W pn xe tk' _ => by exact (pss_one (ps_expr (pe_makeK (mk_Column T) GI hr (by rfl) (mg_Column T) kb (passAll tk') (pa_cons (pv 1) (pa_cons (pv 2) (pa_cons (pv 3) pa_nil))) (pk_cons (pv 4) pk_nil)))))
          (fun a oe cls d pn hz hf => pss_one (ps_ret (by exact (pe_xf ox.xf ox.no hz hf (pv 5))))))
    (pss_one (ps_ret pe_non))), ?_⟩
  refine ⟨_, rfl, l, _, rfl, hl, rfl, _, _, rfl, _, _, rfl, _, _, rfl, _, _, rfl, rfl, ?_⟩
  dsimp only
  refine ⟨_, rfl, _, rfl, _, rfl, _, rfl, rfl, rfl, fun x dx nx ndx ndc => ?_⟩
  have s1 : Same H (upd (upd H dx (.own x)) x (.ins (He.ga K "Column") dx [])) := fun b o e => by rw [upd_ne (ne_of_none e nx), upd_ne (ne_of_none e ndx)]; exact e
  refine ⟨x, dx, n, g, d, k, rfl, upd_same, tn.keep s1, tg.keep s1, td.keep s1, tk.keep s1, hn, fun n0 g0 k0 H4 e1 e2 e3 eb hc4 k4 => ⟨rfl, ?_⟩, fun q e H4 eb s4 he σ hlen => ?_⟩
  · have hk := kk H4 (fun b o e => k4 b o (ne_of_none e nx) (s1 _ _ e))
    unfold badV at hk
    rw [eb] at hk
    exact hk
  · have hk := kk H4 (s1.trans s4)
    unfold badV at hk
    rw [eb] at hk
    refine ⟨true, ox.me, fun _ a ha => ?_, fun q => by cases q⟩
    refine ⟨_, ?_, rfl, rfl, e, _, _, rfl, he, (show List.lookup ("part" : Str) [(("part" : Str), V.str q)] = some (.str q) by simp [List.lookup]), hk⟩
    rw [List.getElem?_set, if_pos rfl, if_pos (by rw [hlen]; decide)]
/-! repr of None, a bool, an int, a text -/
def reprV : V → Str
  | .non => "None"
  | .bl b => if b then "True" else "False"
  | .int i => toString i
  | .str x => reprText x
  | _ => ""
def okR : V → Bool
  | .non => true
  | .bl _ => true
  | .int i => decide (i.natAbs.log2 < 1920)
  | .str x => decide ((reprText x).length ≤ sizeLine)
  | _ => false
theorem call_reprV {X : Cx} : CallR X (.builtin "repr") (fun xs H Q => ∃ v, xs = [v] ∧ okR v = true ∧ Q (.str (reprV v)) H) := by
  intro pins s σ H xs us Q I r h
  obtain ⟨v, rfl, ok, q⟩ := h
  obtain ⟨u, rfl, hu⟩ := vals1 r
  cases v with
  | non =>
    obtain rfl : u = Value.none := hu
    exact PySem.P.repr_of_none ⟨.str _, H, I.tok _, ⟨_, rfl⟩, q⟩
  | bl b =>
    obtain rfl : u = Value.bool b := hu
    exact PySem.P.repr_of_bool ⟨.str _, H, I.tok _, ⟨_, rfl⟩, q⟩
  | int i =>
    obtain ⟨t, rfl⟩ := hu
    exact PySem.P.repr_of_int (of_decide_eq_true ok) ⟨.str _, H, I.tok _, ⟨_, rfl⟩, q⟩
  | str x =>
    obtain ⟨t, rfl⟩ := hu
    exact PySem.P.repr_of_str ⟨.str _, H, I.tok _, ⟨_, rfl⟩, q⟩ (of_decide_eq_true ok)
  | _ => cases ok
theorem strOk_of (s : String) : PyData.strOk (Str.ofString s) = true := by
  rw [Str.ofString_eq_toList]
  unfold PyData.strOk
  rw [List.all_toArray, List.all_map, List.all_eq_true]
  intro c _
  refine decide_eq_true ?_
  show c.toNat < 1114112
  have := c.valid
  unfold UInt32.isValidChar Nat.isValidChar at this
  have e : c.toNat = c.val.toNat := rfl
  omega
theorem repr_okV : ∀ {v : V}, (∀ x, v ≠ .str x) → okR v = true → okV (.str (reprV v)) = true
  | .non, _, _ => by decide +kernel
  | .bl true, _, _ => by decide +kernel
  | .bl false, _, _ => by decide +kernel
  | .int i, _, _ => strOk_of (toString i)
  | .str x, h, _ => absurd rfl (h x)
  | .byt _, _, h => by cases h
  | .flt _, _, h => by cases h
  | .ref _, _, h => by cases h
  | .ty _, _, h => by cases h

-- needs: +REPV
/-! defs that ask for repr of data: what they promise where no repr is under way -/
section
open PySem PySem.Spec PyProof.Rows L2 Evl2
/-- a promise that is kept where no repr is under way -/
structure FnG (P : Program) (w : World) (K : PySem.W.Frag) (mg : Str → Option Value) (base : Heap) (CX : CXT) (k : Nat) (f : Addr) (fd : FuncData) (ps : List Str) (sp : Sp) : Prop where
  cnt : ∀ vs H Q E, sp vs H Q E → vs.length = ps.length
  go : ∀ (A : Around), A.guards = some [] → ∀ (up : List Env) (s : Shared) (H : Hp) (args : Args) (us : List Value) (vs : List V) (Q : VK) (E : XK),
    Room k A → Env0 P w K mg base A up s H → BindsTo s fd args (ps.zip us) → Vals vs us → sp vs H Q E → codeAny (model P w) A (.call (.ref f) args) (CR CX up P w H s Q E) s
theorem FnOk.g {P : Program} {w : World} {K : PySem.W.Frag} {mg : Str → Option Value} {base : Heap} {CX : CXT} {k : Nat} {f : Addr} {fd : FuncData} {ps : List Str} {sp : Sp} (F : FnOk P w K mg base CX k f fd ps sp) : FnG P w K mg base CX k f fd ps sp :=
  ⟨F.len, fun A _ up s H args us vs Q E => F.run A up s H args us vs Q E⟩
theorem FnG.mono {P : Program} {w : World} {K : PySem.W.Frag} {mg : Str → Option Value} {base : Heap} {CX : CXT} {i j : Nat} {f : Addr} {fd : FuncData} {ps : List Str} {sp : Sp} (F : FnG P w K mg base CX i f fd ps sp) (h : i ≤ j) : FnG P w K mg base CX j f fd ps sp :=
  ⟨F.cnt, fun A hA up s H args us vs Q E room => F.go A hA up s H args us vs Q E (room.mono h)⟩
/-- the rule for a def, by its body, where no repr is under way -/
theorem fnG_by {CX : CXT} {P : Program} {w : World} {K : PySem.W.Frag} {mg : Str → Option Value} {base : Heap} {x qual : Str} {params : Arguments} {body : List Stmt} {scope : Scope} {dvs : List V} {kws : List (Str × V)} {f : Addr} {fd : FuncData}
    {N ps : List Str} {k : Nat} {sp : Sp} (F : FunD K x qual params body scope dvs kws f fd) (hS : FnScope N ps scope) (cnt : ∀ vs H Q E, sp vs H Q E → vs.length = ps.length)
    (bd : ∀ (cdv : Value) (A : Around) (up : List Env) (s : Shared) (H : Hp) (vs : List V) (Q : VK) (E : XK), A.guards = some [] → Room k (A.deeper (envOfC qual scope s.heap.objs.size f cdv)) → sp vs H Q E →
      ∃ t, PSs (cxOf CX P w K mg base N qual scope f cdv A up s H E) body t ∧ t { nx := fun _ G => Q .non G, rt := Q } (start N vs) H) : FnG P w K mg base CX (k + 1) f fd ps sp := by
  obtain ⟨_, _, _, _, _, _, _, cdv, _, _, rfl, found, code, _, _⟩ := F.ex
  constructor
  · exact cnt
  intro A hA up s H args us vs Q E room env bound rel prom
  have many := cnt vs H Q E prom
  have old : ∀ b o, base.get? b = some o → s.heap.get? b = some o := fun b o hbo => (env.bs b o hbo).1
  have inK := env.mod.kin.keeps old
  have free := env.mod.nolimit.keeps old
  refine codeAny_call_function room.depth (inK _ _ found) rfl hS.co hS.gen rfl (PySem.W.codeRec_of inK code) (bound _ _ _ _ ?_)
  refine wpAny_newFunctionEnv_cells hS.kind (fun y hy => ?_) fun env' he s1 fresh => ?_
  · obtain ⟨n, v⟩ := y
    have hn := hS.par n (List.of_mem_zip hy).1
    rcases hn with hn | hn
    · exact Or.inl hn
    · exact Or.inr ⟨hn, PySem.W.cellsFrom_some _ _ _ (Or.inl hn)⟩
  · subst he
    refine ⟨free.keeps fresh.toInCall.keep, codeAny_func ?_⟩
    obtain ⟨t, reads, top⟩ := bd cdv A up s H vs Q E hA (room.deeper _) prom
    have inv0 : Inv (cxOf CX P w K mg base N qual scope f cdv A up s H E) [] (start N vs) H s1 := inv_start hS room.hd env many rel fresh
    have ends : ∀ {σ' : L2.St} {G : Hp} {v : V} {u : Value} {s2 : Shared}, Inv (cxOf CX P w K mg base N qual scope f cdv A up s H E) [] σ' G s2 → RelV v u → Q v G → CE up P w H s Q u s2 := fun {_ G v _ _} J rv q => ⟨v, G, J.os, J.bare, J.base, J.hok, rv, q⟩
    refine wpAny_mono (reads.run [] s1 (start N vs) H _ inv0 top) ?_ (fun _ _ z => z)
    intro how s2 z
    match how, z with
    | .ret u, ⟨v, _, _, J, rv, q⟩ => exact ends J rv q
    | .next, ⟨_, _, J, q⟩ => exact ends (v := V.non) (u := Value.none) J rfl q
    | .brk, ⟨_, _, _, q⟩ => exact q.elim
    | .cont, ⟨_, _, _, q⟩ => exact q.elim
section
variable {X : Cx} {CX : CXT} {k : Nat} {f : Addr} {fd : FuncData} {ps : List Str} {sp : Sp} {E : XK} {dvs : List V} {ds : List Value}
theorem callsG {pins : List (Addr × Obj)} {σ : L2.St} {H : Hp} {s : Shared} {Q : VK} {us : List Value} {vs : List V} (F : FnG X.prog X.w X.K X.mg X.base CX k f fd ps sp) (hA : X.A.guards = some []) (room : Room k X.A) (hb : Binds X.K fd ps ds) (hd : Vals dvs ds) (on : Passes CX X E)
    (I : Inv X pins σ H s) (rel : Vals vs us) (prom : sp (vs ++ dvs) H Q E) : wpAny (model X.prog X.w) X.A (call (.ref f) us) (EP X pins σ Q) X.xe s := by
  have rel2 := rel.append hd
  have many : (us ++ ds).length = ps.length := (rel2.length).symm.trans (F.cnt _ _ _ _ prom)
  have ran := F.go X.A hA X.stack s H ⟨us, []⟩ (us ++ ds) (vs ++ dvs) Q E room I.env0 (hb s us I.kIn many) rel2 prom
  refine wpAny_call (codeAny_mono ran ?_)
  intro r s' z
  match r, z with
  | .error e, z => exact on pins σ H s e s' I z
  | .ok (.ret _), z => exact I.after z
/-- f(e, ..), where no repr is under way -/
theorem pe_callG {x : Str} {p pos : Pos} {e : Expr} {es : List Expr} {t : TA} (F : FnG X.prog X.w X.K X.mg X.base CX k f fd ps sp) (hA : X.A.guards = some []) (room : Room k X.A) (hg : Gl X x) (hm : X.mg x = some (.ref f)) (hk : PySem.W.keepIn X.K (.ref f) = true) (hb : Binds X.K fd ps ds) (hd : Vals dvs ds) (on : Passes CX X E)
    (ha : PA X (e :: es) t) (hdb : (x == ("__debug__" : Str)) = false := by decide) (he : starEach (e :: es) X.env = (false, eval e X.env) :: starEach es X.env := by rfl) (hpl : (backTo pos (starEach es X.env)).any (·.1) = false := by rfl) :
    PE X (.Call (.Name x p) (e :: es) [] pos) (tCall sp dvs E t) := by
  constructor
  intro pins s σ H Q I h
  exact wpAny_Call_Name_kw (ld_glob I hg hm (PySem.W.callWith_K (h₀ := X.base) I.ok.mod.kin hk (thn (ha.run pos pins s σ H _ I h) fun us s1 ⟨vs, G, J, rel, q⟩ => ⟨J.kIn, callsG F hA room hb hd on J rel q⟩) he hpl) hdb)
end
/-- a def of the text that asks for repr, as it is called -/
structure CalleeG (P : Program) (w : World) (K : PySem.W.Frag) (mg : Str → Option Value) (base : Heap) (CX : CXT) (k : Nat) (x : Str) (ps : List Str) (dvs : List V) (sp : Sp) : Prop where
  ex : ∃ (fd : FuncData) (ds : List Value), FnG P w K mg base CX k (He.ga K x) fd ps sp ∧ Binds K fd ps ds ∧ Vals dvs ds
  kp : PySem.W.keepIn K (.ref (He.ga K x)) = true
  g : mg x = some (.ref (He.ga K x))
theorem CalleeG.up {P : Program} {w : World} {K : PySem.W.Frag} {mg : Str → Option Value} {base : Heap} {CX : CXT} {i j : Nat} {x : Str} {ps : List Str} {dvs : List V} {sp : Sp} (C : CalleeG P w K mg base CX i x ps dvs sp) (h : i ≤ j) : CalleeG P w K mg base CX j x ps dvs sp := by
  obtain ⟨⟨fd, ds, F, b, v⟩, kp, g⟩ := C
  exact ⟨⟨fd, ds, F.mono h, b, v⟩, kp, g⟩
theorem pcallG {X : Cx} {k : Nat} {x : Str} {ps : List Str} {dvs : List V} {sp : Sp} {p pos : Pos} {e : Expr} {es : List Expr} {t : TA} (C : CalleeG X.prog X.w X.K X.mg X.base CX0 k x ps dvs sp) (hA : X.A.guards = some []) (room : Room k X.A) (ha : PA X (e :: es) t) (hg : Gl X x := by rfl)
    (hdb : (x == ("__debug__" : Str)) = false := by decide) (he : starEach (e :: es) X.env = (false, eval e X.env) :: starEach es X.env := by rfl) (hpl : (backTo pos (starEach es X.env)).any (·.1) = false := by rfl) :
    PE X (.Call (.Name x p) (e :: es) [] pos) (tCall sp dvs E0 t) := by
  obtain ⟨⟨fd, ds, F, b, v⟩, kp, g⟩ := C
  exact pe_callG F hA room hg g kp b v pass0 ha hdb he hpl
/-- a def without defaults that asks for repr -/
theorem mkCalleeG {P : Program} {w : World} {K : PySem.W.Frag} {mg : Str → Option Value} {base : Heap} {x y : Str} {params : Arguments} {body : List Stmt} {scope : Scope} {N ps : List Str} {k : Nat} {sp : Sp} (hF : ∃ fd, FunD K y y params body scope [] [] (He.ga K x) fd) (hg : mg x = some (.ref (He.ga K x))) (hS : FnScope N ps scope)
    (hb : ∀ (kV doc pm : Value) (an : Option Addr) (cdv ct : Value) (us : List Value), us.length = ps.length → bindArgs (PySem.W.fnOf y y params body scope .none kV doc pm an cdv ct) ⟨us, []⟩ = pure (ps.zip us))
    (cnt : ∀ vs H Q E, sp vs H Q E → vs.length = ps.length)
    (bd : ∀ (cdv : Value) (A : Around) (up : List Env) (s : Shared) (H : Hp) (vs : List V) (Q : VK) (E : XK), A.guards = some [] → Room k (A.deeper (envOfC y scope s.heap.objs.size (He.ga K x) cdv)) → sp vs H Q E →
      ∃ t, PSs (cxOf CX0 P w K mg base N y scope (He.ga K x) cdv A up s H E).nox body t ∧ t { nx := fun _ G => Q .non G, rt := Q } (start N vs) H) : CalleeG P w K mg base CX0 (k + 1) x ps [] sp := by
  obtain ⟨fd, F⟩ := hF
  refine ⟨⟨fd, [], fnG_by F hS cnt fun cdv A up s H vs Q E hA room h => ?_, F.bindsN hb, .nil⟩, F.kp, hg⟩
  obtain ⟨t, h1, h2⟩ := bd cdv A up s H vs Q E hA room h
  exact ⟨t, h1.nox, h2⟩
/-- repr of data that stands in the heap: lists and tuples of None, bools, ints, texts and of such -/
def rReprL (K : PySem.W.Frag) : List V → Hp → VK → Prop := fun xs H Q => ∃ (a : Addr) (d : PyData), xs = [V.ref a] ∧ Dp K H (.ref a) d ∧ PyData.showable d = true ∧ d.shown.length ≤ sizeLine ∧ d.depth ≤ 60 ∧ d.hasDict = false ∧ Q (.str d.shown) H
theorem call_reprL {X : Cx} (hA : X.A.guards = some []) (hu : X.A.units + 70 < cLine) : CallR X (.builtin "repr") (rReprL X.K) := by
  intro pins s σ H xs us Q I r h
  obtain ⟨a, d, rfl, hd, hs, hz, hdp, hnd, q⟩ := h
  obtain ⟨u, rfl, ru⟩ := vals1 r
  obtain rfl : u = Value.ref a := ru
  obtain ⟨as, rr⟩ := hd.reads I d _ _ rfl
  exact PySem.repr_of_reads' rr hs (PyData.noDict_hsm hnd) hA (by omega) (fun _ _ e => e) (fun h' t tk hk => ⟨.str d.shown, H, I.kept hk, ⟨_, rfl⟩, q⟩) hz
/-- repr of either -/
theorem call_reprA {X : Cx} (hA : X.A.guards = some []) (hu : X.A.units + 70 < cLine) : CallR X (.builtin "repr") (fun xs H Q => (∃ v, xs = [v] ∧ okR v = true ∧ Q (.str (reprV v)) H) ∨ rReprL X.K xs H Q) := by
  intro pins s σ H xs us Q I r h
  rcases h with h | h
  · exact call_reprV pins s σ H xs us Q I r h
  · exact call_reprL hA hu pins s σ H xs us Q I r h
/-- the law's call, where no repr is under way -/
theorem law_callG {P : Program} {w : World} {K : PySem.W.Frag} {mg mb : Str → Option Value} {CX : CXT} {k : Nat} {fa a : Addr} {fd : FuncData} {x : Str} {sp : Sp} {s0 : Shared} {vs : List Value} {ns : List Int}
    (inK : K.In s0.heap) (gl : s0.heap.Ns mainGlobals mg) (bl : s0.heap.Ns builtinsNs mb) (boot : ∀ y : Str, y ≠ "__name__" → mb y = bootBuiltins y) (free : s0.heap.NoLimit) (still : s0.gens = #[])
    (script : s0.heap.get? a = some { cls := .type "list", data := .seq vs.toArray }) (areI : IntsAre vs ns) (few : ns.length ≤ sizeLine) (room : Room k callerA)
    (F : ∀ base : Heap, K.In base → base.Ns mainGlobals mg → FnG P w K mg base CX k fa fd [x] sp) (bind : ∀ (s : Shared) (u : Value), BindsTo s fd ⟨[u], []⟩ [(x, u)])
    (says : ∀ H : Hp, Only H → SqL K H a (ns.map V.int) → sp [.ref a] H (fun v _ => v = .bl true) fun _ _ _ => False) (calm : ∀ H e s', CX [] H s0 (fun _ _ _ => False) e s' → False) :
    codeAny (model P w) callerA (.call (.ref fa) ⟨[.ref a], []⟩) (fun r s' => r = .ok (.ret (.bool true)) ∧ OldK s0.heap s'.heap ∧ s'.os = s0.os ∧ AllBare s'.gens) s0 := by
  have rel : Vals (ns.map V.int) vs := vals_ints areI
  -- whatever is followed: at most the script, and it is none of the text's own objects then
  have from_ : ∀ H : Hp, Only H → SqL K H a (ns.map V.int) → HOk P w H s0.heap → (∀ b, H b ≠ none → b = a ∧ K.lookup a = none) →
      codeAny (model P w) callerA (.call (.ref fa) ⟨[.ref a], []⟩) (fun r s' => r = .ok (.ret (.bool true)) ∧ OldK s0.heap s'.heap ∧ s'.os = s0.os ∧ AllBare s'.gens) s0 := by
    intro H only sq fine mine
    have kept : ∀ {b : Addr} {o : Obj}, s0.heap.get? b = some o → H b = none → (hidT s0.heap H).get? b = some o := fun e n => hidT_get e n
    have other : ∀ {b : Addr}, ¬ (b = a ∧ K.lookup a = none) → H b = none := fun {b} nb => by
      cases q : H b with
      | none => rfl
      | some u => exact (nb (mine b (by rw [q]; intro z; cases z))).elim
    have space : ∀ {b : Addr} {m : Str → Option Value}, s0.heap.Ns b m → (hidT s0.heap H).Ns b m := fun {b m} n => by
      obtain ⟨o, es, ep, e, d, more⟩ := n
      refine ⟨o, es, ep, kept e (other fun z => ?_), d, more⟩
      rw [z.1, script] at e
      rw [← Option.some.inj e] at d
      cases d
    have inB : K.In (hidT s0.heap H) := fun b o e => kept (inK b o e) (other fun z => by rw [z.1, z.2] at e; cases e)
    have md : Mod K mg (hidT s0.heap H) := ⟨inB, space gl, ⟨mb, space bl, boot⟩, by
      obtain ⟨mc, n1, n2⟩ := free
      exact ⟨mc, space n1, n2⟩⟩
    have env : Env0 P w K mg (hidT s0.heap H) callerA [] s0 H := { frames := rfl, mod := md, bs := fun b o e => of_hidT e, bsz := Nat.le_of_eq (hidT_size _ _), funs := trivial, frf := fun b hb => (nomatch hb), hok := fine, bare := .of_eq still }
    have ran := (F _ inB (space gl)).go callerA rfl [] s0 H ⟨[.ref a], []⟩ [.ref a] [.ref a] _ _ room env (bind s0 (.ref a)) (.cons rfl .nil) (says H only sq)
    refine codeAny_mono ran fun r s' z => ?_
    match r, z with
    | .error e, z => exact (calm H e s' z).elim
    | .ok (.ret u), ⟨v, G, os, bare, un, fineG, rv, q⟩ =>
      have q : v = .bl true := q
      rw [q] at rv
      have eu : u = Value.bool true := rv
      refine ⟨by rw [eu], OldK.of_keep fun b o e => ?_, os, bare⟩
      rcases only b with n | ⟨ob, xs, n⟩
      · exact un.keep b o e n (fun z => by cases z) (by intro z; cases z)
      · have n2 := un.frzs b ob _ n
        have e1 := (fine b _ n).1
        have e2 := (fineG b _ n2).1
        rw [← Option.some.inj (e1.symm.trans e)]
        exact e2
  cases own : K.lookup a with
  | some o =>
    have e : o = { cls := .type "list", data := .seq vs.toArray } := Option.some.inj ((inK a o own).symm.trans script)
    subst e
    exact from_ (fun _ => none) (fun _ => Or.inl rfl) (Or.inr ⟨_, vs.toArray, _, own, rfl, rfl, rfl, by rw [List.size_toArray, areI.length]; exact few, by simpa using rel⟩) (fun b u z => by cases (show (none : Option HO) = some u from z)) (fun b z => (z rfl).elim)
  | none =>
    let H0 : Hp := fun b => if b = a then some (.frz { cls := .type "list", data := .seq vs.toArray } (.lst (ns.map V.int))) else none
    have at_a : H0 a = some (.frz { cls := .type "list", data := .seq vs.toArray } (.lst (ns.map V.int))) := if_pos rfl
    have off : ∀ {b : Addr}, b ≠ a → H0 b = none := fun nb => if_neg nb
    refine from_ H0 (fun b => ?_) (Or.inl (Or.inr ⟨_, at_a⟩)) (fun b u z => ?_) fun b z => ?_
    · rcases Nat.decEq b a with nb | eb
      · exact Or.inl (off nb)
      · exact Or.inr ⟨_, _, by rw [eb]; exact at_a⟩
    · rcases Nat.decEq b a with nb | eb
      · rw [off nb] at z
        cases z
      · rw [eb, at_a] at z
        rw [← Option.some.inj z, eb]
        exact ⟨script, by rw [List.length_map]; exact few, vs, _, rel, script⟩
    · rcases Nat.decEq b a with nb | eb
      · exact (z (off nb)).elim
      · exact ⟨eb, own⟩
def LawOkG (l : PySem.W.OpenLaw) (w : World) (mg : Str → Option Value) (CX : CXT) (k n : Nat) (x : Str) (fa : Addr) (K : PySem.W.Frag) : Prop :=
  ∃ (fd : FuncData) (sp : Sp), (∀ (s : Shared) (u : Value), BindsTo s fd ⟨[u], []⟩ [(x, u)]) ∧
    (∀ (H : Hp) (a : Addr) (ns : List Int), ns.length ≤ n → (∀ z ∈ ns, Builtin.Int.intBits z ≤ 1048576) → Only H → SqL K H a (ns.map V.int) → sp [.ref a] H (fun v _ => v = .bl true) fun _ _ _ => False) ∧
    ∀ base : Heap, K.In base → base.Ns mainGlobals mg → FnG l.prog w K mg base CX k fa fd [x] sp
theorem walk_bitsG {l : PySem.W.OpenLaw} {n k : Nat} {q : Program} {loose : List Str} {XP : (Str → Option Value) → Heap → Prop} {YP : World → Heap → Prop} {d : DefRec} {CX : CXT} {x : Str} (hn : l.most = some n) (hn2 : n ≤ sizeLine) (hdf : d.params.defaults = []) (hr : Room k callerA)
    (F : ∀ (w : World) (mg : Str → Option Value) (fa : Addr) (h : Heap), YP w h → h.Ns mainGlobals mg → mg d.name = some (.ref fa) → ∃ K : PySem.W.Frag, K.In h ∧ LawOkG l w mg CX k n x fa K)
    (hCX : ∀ (H : Hp) (s : Shared) (e : Value) (s' : Shared), CX [] H s (fun _ _ _ => False) e s' → False) : PySem.W.WalkO q loose XP YP l.row.toRowW d [] (fun f vs => PySem.call f vs) := by
  refine Att.attach_callB hn hdf fun w s₀ s₁ mg mb fa o pm cd doc a vs ns G Y ho hd hcd hmg hobj hints hlen hbits hg => ?_
  obtain ⟨K, KX, fd, sp, hb, hsp, hF⟩ := F w mg fa _ Y G.T.g hmg
  exact law_callG KX G.T.g G.T.b G.T.builtins G.T.nolimit hg hobj hints (Nat.le_trans hlen hn2) hr hF hb (fun H hO hS => hsp H a ns hlen hbits hO hS) fun H e s' => hCX H s₁ e s'
end

-- needs: Column.__init__
/-! a column's fields hold no method's name -/
theorem colFs_changed {n : Str} {g : Int} {d : V} {k : Int} : (colFs n g d k).lookup ("changed" : Str) = none := by
  have g1 : (("changed" : Str) == "name") = false := by decide +kernel
  have g2 : (("changed" : Str) == "greatest") = false := by decide +kernel
  have g3 : (("changed" : Str) == "default") = false := by decide +kernel
  have g4 : (("changed" : Str) == "number") = false := by decide +kernel
  unfold colFs
  simp [List.lookup, g1, g2, g3, g4]

/-! _law_changed of K02: a Column with one part changed, or what repr shows of the part that BadPart tells -/
def Shows (K : PySem.W.Frag) (H : Hp) (v : V) (z : Str) : Prop := (okR v = true ∧ z = reprV v) ∨ ∃ (a : Addr) (d : PyData), v = .ref a ∧ Dp K H (.ref a) d ∧ PyData.showable d = true ∧ d.shown.length ≤ sizeLine ∧ d.depth ≤ 60 ∧ d.hasDict = false ∧ z = d.shown
def sp_chg2 (K : PySem.W.Frag) : Sp := fun vs H Q _ => ∃ (c : Addr) (part v : V) (n : Str) (g k : Int) (d : V), vs = [.ref c, part, v] ∧ ColAt K H c n g d k ∧ n.length ≤ 1000 ∧ TyAll K H part ∧ TyAll K H v ∧ TyAll K H d ∧ (∀ z, v = .str z → z.length ≤ 1000) ∧
  (wordV part P4 = false → ∃ z, (∀ H', Same H H' → Shows K H' part z) ∧ ∀ H', Same H H' → Q (.str z) H') ∧
  ∀ (p : Str), part = .str p → wordV part P4 = true → ∃ (n' g' d' k' : V) (q : Str), fourF p v (.str n) (.int g) d (.int k) = (n', g', d', k') ∧ badC n' g' d' k' = some q ∧ okR (.str q) = true ∧ ∀ H', Same H H' → Q (.str (reprV (.str q))) H'
theorem ok_chg2 (T : Tx K mg) : CalleeG P w K mg base CX0 8 "_law_changed" ["_law_one", "_law_part", "_law_value_here"] [] (sp_chg2 K) := by
  obtain ⟨fdC, FC, bC⟩ := ok_changedX (P := P) (w := w) (base := base) T
  have ox := oexB_ok (ex_BadPart_x T)
  refine mkCalleeG (fd__law_changed T) (mg__law_changed T) sc__law_changed (fun _ _ _ _ _ _ us hl => match us, hl with | [_, _, _], _ => rfl) (fun vs H Q E h => ?_) (fun cdv A outer s H vs Q E hA hr h => ?_)
  · obtain ⟨c, part, v, n, g, k, d, rfl, _⟩ := h
    rfl
  obtain ⟨c, part, v, n, g, k, d, rfl, hc, hnl, tp, tv, td, hvl, kW, kF⟩ := h
  have nd := sc__law_changed.nd
  have hr6 : Room 6 _ := hr.mono (by decide)
  have hun := hr.un
  have hun2 := Nat.lt_of_le_of_lt (Nat.le_trans (Nat.add_le_add_left (show 70 ≤ 16 * 7 + 200 by decide) _) (Nat.le_of_eq (Nat.add_assoc _ _ _).symm)) hun
  refine ⟨_, pss_one (ps_try_as (i := 3) (tb := fun W => tRet (tMeth (He.ga K "Column") "changed" (sp_changedX K) [] (fun cls d H => ∀ σ : L2.St, σ.length = (["_law_one", "_law_part", "_law_value_here", "e"] : List Str).length → W cls d σ H) (tVar 0) (tCons (tVar 1) (tCons (tVar 2) tNil)))) (ts := fun a cls d => tRet (tCB (fun xs H Q => (∃ v, xs = [v] ∧ okR v = true ∧ Q (.str (reprV v)) H) ∨ rReprL K xs H Q) (tCons (tXf a cls d (He.ga K "BadPart") "part" (tVar 3)) tNil))) (Wout := fun _ _ _ _ => False) rfl rfl nd rfl rfl ⟨rfl, by decide, Or.inl (mg_BadPart T)⟩ takes0
          (fun W pn xe tk' _ => pss_one (ps_ret (by exact (pe_meth (pv 0) (cl_Column T) (me_Column_changed T) FC hr6 bC .nil (passAll tk') (by exact (pa_cons (pv 1) (pa_cons (pv 2) pa_nil)))))))
          (fun a oe cls d pn hz hf => pss_one (ps_ret (by exact (pe_callB (call_reprA hA hun2) (by rfl) (fr_repr T) (by decide +kernel) (pa_cons (pe_xf ox.xf ox.no hz hf (pv 3)) pa_nil)))))), ?_⟩
  obtain ⟨dx, hcc⟩ := id hc
  refine ⟨_, rfl, c, dx, _, rfl, hcc, colFs_changed, _, rfl, _, rfl, c, part, v, n, g, k, d, rfl, hc, hnl, tp, tv, td, hvl, fun e H' hw s' he σ hlen => ?_, fun p hp hw n' g' d' k' e4 => ⟨fun a n0 g0 k0 H' _ _ _ eb _ _ _ => ?_, fun q e H' eb s' he σ hlen => ?_⟩⟩
  · obtain ⟨z, sh, kz⟩ := kW hw
    refine ⟨true, ox.me, fun _ a ha => ?_, fun q => by cases q⟩
    refine ⟨_, ?_, rfl, rfl, e, _, _, rfl, he, (show List.lookup ("part" : Str) [(("part" : Str), part)] = some part by simp [List.lookup]), ?_⟩
    · rw [List.getElem?_set, if_pos rfl, if_pos (by rw [hlen]; decide)]
    · rcases sh H' s' with ⟨ok, rfl⟩ | ⟨b, dd, rfl, r1, r2, r3, r4, r5, rfl⟩
      · exact .inl ⟨part, rfl, ok, kz H' s'⟩
      · exact .inr ⟨b, dd, rfl, r1, r2, r3, r4, r5, kz H' s'⟩
  · obtain ⟨n2, g2, d2, k2, q, f1, f2, _⟩ := kF p hp hw
    rw [e4] at f1
    cases f1
    rw [eb] at f2
    cases f2
  · obtain ⟨n2, g2, d2, k2, q2, f1, f2, f3, f4⟩ := kF p hp hw
    rw [e4] at f1
    cases f1
    rw [eb] at f2
    obtain rfl := Option.some.inj f2
    refine ⟨true, ox.me, fun _ a ha => ?_, fun q => by cases q⟩
    refine ⟨_, ?_, rfl, rfl, e, _, _, rfl, he, (show List.lookup ("part" : Str) [(("part" : Str), V.str q)] = some (.str q) by simp [List.lookup]), .inl ⟨_, rfl, f3, f4 H' s'⟩⟩
    rw [List.getElem?_set, if_pos rfl, if_pos (by rw [hlen]; decide)]
/-! values that are no instances of an own class: isinstance, == -/
section
variable {X : Cx} {CX : CXT} {k : Nat} {f : Addr} {fd : FuncData} {ps : List Str} {sp : Sp} {E : XK} {x : Str}
theorem call_isNo (h : ninB X.K x = true) : CallR X (.builtin "isinstance") (fun xs H Q => ∃ (v : V) (t : String), xs = [v, .ref (He.ga X.K x)] ∧ TyOf X.K H v (.type t) ∧ t ∈ noTs ∧ Q (.bl false) H) := by
  intro pins s σ H xs us Q I r z
  obtain ⟨v, t, rfl, ty, ht, q⟩ := z
  obtain ⟨u, w', rfl, ru, rw'⟩ := vals2 r
  cases rw'
  exact isinst_ok I ru ty (ninB_kit h ht) fun tk => ⟨.bl false, H, I.tok _, rfl, q⟩
/-- None, a bool, an int, a text: its type -/
def flatT : V → Option String
  | .non => some "NoneType"
  | .bl _ => some "bool"
  | .int _ => some "int"
  | .str _ => some "str"
  | _ => none
theorem flatT_in {v : V} {t : String} (h : flatT v = some t) : t ∈ noTs := by
  cases v <;> cases h <;> decide
theorem flatT_ty {K : PySem.W.Frag} {H : Hp} {v : V} {t : String} (h : flatT v = some t) : TyOf K H v (.type t) := by
  cases v with
  | non => cases h; exact .non
  | bl b => cases h; exact .bl b
  | int i => cases h; exact .int i
  | str z => cases h; exact .str z
  | _ => cases h
def rEqFlat (C : Addr) (sp : Sp) (E : XK) : R2 := fun a y H Q => ∃ p dx fs t, a = .ref p ∧ H p = some (.ins C dx fs) ∧ flatT y = some t ∧ sp [a, y] H (fun z H' => ∃ c, z = .bl c ∧ Q (.bl c) H') E
/-- x == y, x of a class with an own __eq__ that answers a Bool, y flat -/
theorem op_eqFlat (nin : ninB X.K x = true) (F : FnOk X.prog X.w X.K X.mg X.base CX k f fd ps sp) (hm : Meth X.K (He.ga X.K x) "__eq__" f) (hr : Room k X.A) (hb : Binds X.K fd ps []) (hx : Passes CX X E) : OpR X (compareOp .Eq) (rEqFlat (He.ga X.K x) sp E) := by
  intro pins s σ H a y v u Q I rx ry h
  obtain ⟨p, dx, fs, t, rfl, ha, ht, q⟩ := h
  cases (show v = Value.ref p from rx)
  obtain ⟨mA, J, _⟩ := ins_get I.hok ha
  obtain ⟨od, J, _⟩ := J.look
  obtain ⟨m, hF⟩ := I.fr
  have lk : PySem.W.Looks (model X.prog X.w) s.heap (typeOf u) (.type t) := by
    cases y with
    | non => cases ht; cases (show u = Value.none from ry); exact PySem.W.Looks.of_pure rfl
    | bl b => cases ht; cases (show u = Value.bool b from ry); exact PySem.W.Looks.of_pure rfl
    | int i => cases ht; obtain ⟨tk, rfl⟩ := (show ∃ tk, u = Value.int i tk from ry); exact PySem.W.Looks.of_pure rfl
    | str z => cases ht; obtain ⟨tk, rfl⟩ := (show ∃ tk, u = Value.str z tk from ry); exact PySem.W.Looks.of_pure rfl
    | _ => cases ht
  show wpAny (model X.prog X.w) X.A (richCompare .Eq (.ref p) u) (EP X pins σ Q) X.xe s
  refine PySem.W.cmp_K (op := .Eq) (tb := .type t) hr.units0 hF I.ok.mod.kin J lk (ninB_first nin (flatT_in ht)) hm.at_ hm.fn ?_
  refine wpAny_mono (runA (us := [.ref p, u]) (vs := [.ref p, y]) F hr I.env0 hb hx I (.cons rfl (.cons ry .nil)) q) (fun r s' z => ?_) fun _ _ e => e
  obtain ⟨z', H', I', rz, c, ec, qz⟩ := z
  subst ec
  cases (show r = Value.bool c from rz)
  exact ⟨.bl c, H', I', rfl, qz⟩
end

-- needs: Column.__eq__ Column.__init__ +NINS
/-! column == what is no Column; Column(name, greatest) -/
def sp_Col_eqN (K : PySem.W.Frag) : Sp := fun vs H Q _ => ∃ (a : Addr) (y : V) (t : String), vs = [.ref a, y] ∧ flatT y = some t ∧ Q (.bl false) H
theorem ok_Col_eqN (T : Tx K mg) : ∃ fd, FnOk P w K mg base CX0 1 (He.ma K (He.ga K "Column") "__eq__") fd ["self", "other"] (sp_Col_eqN K) ∧ Binds K fd ["self", "other"] [] := by
  refine mkMeth (fd_Column___eq__ T) sc_Column___eq__ (fun _ _ _ _ _ _ us hl => match us, hl with | [_, _], _ => rfl) (fun vs H Q E h => ?_) (fun cdv A outer s H vs Q E hr h => ?_)
  · obtain ⟨a, y, t, rfl, _⟩ := h
    rfl
  obtain ⟨a, y, t, rfl, ht, k⟩ := h
  refine ⟨_, pss_one (ps_ret (pe_and (pe_callB (call_isNo (ex_Column_nin T)) (by rfl) (fr_isinstance T) (by decide +kernel) (pa_cons (pv 1) (pa_cons (pe_glob (v := .ref (He.ga K "Column")) (by rfl) (mg_Column T) rfl) pa_nil)))
    (pe_and (pe_cmpR op_eq (pe_fld (pv 0) rfl) (pe_fld (pv 1) rfl) (nomark _)) (pe_and (pe_cmpR op_eq (pe_fld (pv 0) rfl) (pe_fld (pv 1) rfl) (nomark _)) (pe_and (pe_cmpR op_eq (pe_fld (pv 0) rfl) (pe_fld (pv 1) rfl) (nomark _)) (pe_one (pe_cmpR op_eq (pe_fld (pv 0) rfl) (pe_fld (pv 1) rfl) (nomark _)))))))), ?_⟩
  exact ⟨_, rfl, y, t, rfl, flatT_ty ht, flatT_in ht, _, rfl, iteF k⟩
theorem binds_Col2 (T : Tx K mg) {fd : FuncData} (F : FunD K "__init__" "Column.__init__" (defArgs s_Column___init__) (defBody s_Column___init__) (defScope s_Column___init__) (d_Column___init__.dvs K) (d_Column___init__.kws K) (He.ma K (He.ga K "Column") "__init__") fd) :
    ∃ ds, Vals [V.non, V.int 0] ds ∧ Binds K fd ["self", "name", "greatest", "default", "number"] ds := by
  have h := F.binds (ps := ["self", "name", "greatest", "default", "number"]) 3 0 (by intro z; cases z) rfl (fun TT D doc pm an cdv ct us its ks h1 h2 h3 => ?_) (by intro z; cases z)
  · exact h
  · match us, h1, its, h2, ks, h3 with
    | [u0, u1, u2], _, [i0], _, [k0], _ => exact ⟨_, rfl, _, _, _, _, _, _, rfl, rfl, rfl⟩
theorem dflat {v : V} {t : String} {H : Hp} (h : flatT v = some t) : DFlat v v H := by
  cases v with
  | non => exact ⟨rfl, rfl, rfl⟩
  | bl b => exact ⟨rfl, rfl, by cases b <;> rfl⟩
  | int i => exact ⟨rfl, rfl, beq_self_eq_true i⟩
  | str z => exact ⟨rfl, rfl, beq_self_eq_true z⟩
  | _ => cases h
theorem dflats {H : Hp} : ∀ {xs : List V}, (∀ x ∈ xs, ∃ t, flatT x = some t) → Prs DFlat xs xs H
  | [], _ => Prs.nil
  | x :: xs, h => by
    obtain ⟨t, ht⟩ := h x List.mem_cons_self
    exact Prs.cons (dflat ht) (dflats fun y hy => h y (List.mem_cons_of_mem _ hy))

/-! xs != ys of lists whose items are equal one by one, own == among them -/
section
open PySem.SeqAt
open PySem.AutoSeq1 (wpAny_loadPart')
open PySem.MeetsSeq PySem.MeetsSeq2 PySem.MeetsSeq3 PySem.SeqRoads2
section
variable {prog : Program} {w : World} {A : Around} {R : Result → Shared → Prop}
theorem nw_loop (l b : Addr) (N : Nat) (J : Nat → Shared → Prop) (turns : GQ.ListI prog w A (fun e s' => R (.error e) s') l b N J) (last : ∀ s, J N s → R (.ok (.ret (.bool false))) s) :
    ∀ (m i : Nat), N - i = m → i ≤ N → ∀ s, J i s → wpAny (model prog w) A.in1 (Builtin.«list.__eq__.loop» ⟨[.ref l, .ref b, rawInt i, rawInt 3], []⟩) (GQ.FinOf prog w A R) (fun e s' => R (.error e) s') s
  | 0, i, hm, hi, s, hJ => by
    obtain ⟨us, vs, n, n2, hu, hv, zu, zv, _⟩ := turns i s hJ
    have ei : i = N := by omega
    have done := last s (ei ▸ hJ)
    obtain ⟨hp, g, d, tk, os⟩ := s
    wp_walk using wpAny_loadPart' hu, wpAny_loadPart' hv
    rw [show us[((i : Nat) : Int).toNat]? = none by simp; omega, show vs[((i : Nat) : Int).toNat]? = none by simp; omega]
    wp_walk using wpAny_loadPart' hu, wpAny_loadPart' hv
    show R (.ok (.ret (.bool (us.size != vs.size)))) _
    rw [zu, zv]
    simpa using done
  | m + 1, i, hm, hi, s, hJ => by
    obtain ⟨us, vs, n, n2, hu, hv, zu, zv, turn⟩ := turns i s hJ
    have lu : i < us.size := by omega
    have lv : i < vs.size := by omega
    have one := turn lu lv
    obtain ⟨hp, g, d, tk, os⟩ := s
    wp_walk using wpAny_loadPart' hu, wpAny_loadPart' hv
    rw [show us[((i : Nat) : Int).toNat]? = some us[i] by simp [lu], show vs[((i : Nat) : Int).toNat]? = some vs[i] by simp [lv]]
    refine wpAny_bind (wpAny_mono one (fun r s2 q => ?_) fun _ _ x => x)
    obtain ⟨er, hJ2⟩ := q
    subst er
    have rest := nw_loop l b N J turns last m (i + 1) (by omega) (by omega) s2 hJ2
    obtain ⟨hp2, g2, d2, tk2, os2⟩ := s2
    wp_walk
    rw [show ((i : Int) + 1) = ((i + 1 : Nat) : Int) by omega]
    exact ⟨plainId_quiet plain_eq_loop _, codeAny_builtin entry_eq_loop (by
      rw [Around.under_plainId plain_eq_loop _]
      exact rest)⟩
theorem nw_list (l b : Addr) (N : Nat) (J : Nat → Shared → Prop) (turns : GQ.ListI prog w A (fun e s' => R (.error e) s') l b N J) (last : ∀ s, J N s → R (.ok (.ret (.bool false))) s) {s : Shared} (hJ : J 0 s) :
    wpAny (model prog w) A.in1 (Builtin.«list.__ne__» ⟨[.ref l, .ref b], []⟩) (GQ.FinOf prog w A R) (fun e s' => R (.error e) s') s := by
  obtain ⟨us, vs, n, n2, hu, hv, zu, zv, _⟩ := turns 0 s hJ
  have rest := nw_loop (A := A) (R := R) l b N J turns last N 0 rfl (Nat.zero_le _) s hJ
  obtain ⟨hp, g, d, tk, os⟩ := s
  have both := AutoSeq1.sub_list_list
  have same : ¬ (us.size != vs.size) = true := by simp [zu, zv]
  wp_walk using wpAny_loadPart' hu, wpAny_loadPart' hv
  exact ⟨plainId_quiet plain_eq_loop _, codeAny_builtin entry_eq_loop (by
    rw [Around.under_plainId plain_eq_loop _]
    exact rest)⟩
end
theorem nw_rc {prog : Program} {w : World} {A : Around} {E : Value → Shared → Prop} {s : Shared} {l b : Addr} {N : Nat} {Q : Value → Shared → Prop} (hu : A.units < cLine) (J : Nat → Shared → Prop) (turns : GQ.ListI prog w A E l b N J) (last : ∀ s, J N s → Q (.bool false) s) (hJ : J 0 s) :
    wpAny (model prog w) A (richCompare .NotEq (.ref l) (.ref b)) Q E s := by
  obtain ⟨us, vs, n, n2, h1, h2, _⟩ := turns 0 s hJ
  refine wpAny_richCompare_same_room (op := .NotEq) ⟨_, h1, rfl⟩ ⟨_, h2, rfl⟩ F.slot_list_ne (GQ.call_here F.slot_list_ne ⟨_, h1, rfl⟩ F.entry_list_ne (F.args_list_ne_2 _ _) ?_) hu
  exact nw_list (R := wants (fun v s' => v ≠ .notImplemented ∧ Q v s') E) l b N J turns (fun s' q => ⟨(fun x => nomatch x), last s' q⟩) hJ
end
def rNeG (D : Eqv) : R2 := fun x y H Q => DList D x y H ∧ ∀ H', Ext H H' → Q (.bl false) H'
theorem op_neG {X : Cx} {n : Nat} {D : Eqv} (hD : Mon D) (h : EqG X n D) (hr : Room (n + 1) X.A) : OpR X (compareOp .NotEq) (rNeG D) := by
  intro pins s σ H x y v u Q I rx ry q
  obtain ⟨⟨a, b, xs, ys, rfl, rfl, ha, hb, p⟩, k⟩ := q
  cases rx
  cases ry
  have sb : Sub X (n + 1) X.A := ⟨hr, rfl⟩
  show wpAny (model X.prog X.w) X.A (richCompare .NotEq (.ref a) (.ref b)) (EP X pins σ Q) X.xe s
  refine nw_rc (N := xs.length) hr.units0 (fun _ s' => LoopI X pins σ H s') (fun i s' q => ?_) (fun s' q => ?_) ⟨H, I, Ext.rfl'⟩
  · obtain ⟨H1, I1, e1⟩ := id q
    obtain ⟨z, its, k1, r, e⟩ := I1.hok a _ (e1 _ _ ha)
    obtain ⟨z2, its2, k2, r2, e2⟩ := I1.hok b _ (e1 _ _ hb)
    exact ⟨its.toArray, its2.toArray, k1, k2, e, e2, by rw [List.size_toArray, ← r.length], by rw [List.size_toArray, ← r2.length, ← p.1], fun h1 h2 => turnG hD h sb p r r2 i h1 h2 s' q⟩
  · obtain ⟨H1, I1, e1⟩ := q
    exact ⟨.bl false, H1, I1, rfl, k H1 e1⟩

/-! x != y of instances with an own __eq__ and no own __ne__ -/
theorem kfo_specialB {prog : Program} {w : World} {A : Around} {E : Value → Shared → Prop} {s : Shared} {K : PySem.W.Frag} {x C : Addr} {ox : Obj} {od : Option Obj} {name : Str} {id : String} {args : List Value} {Q : Option Value → Shared → Prop} (X : K.In s.heap) (I : PySem.W.InstAt s.heap x ox C od) (hs : PySem.W.findIn K (.ref C) name = some (some (.builtin id)))
    (hb : ∀ self, bindSpecial (.builtin id) self = pure (.builtin id, [self])) (h : wpAny (model prog w) A (call (.builtin id) (.ref x :: args)) (fun v => Q (some v)) E s) : wpAny (model prog w) A (callSpecialIfBound? (.ref x) name args) Q E s := by
  simp only [callSpecialIfBound?, bindSpecialIfBound?]
  refine wpAny_holding (wpAny_bind (wpAny_bind (wpAny_bind (I.type.here ((PySem.W.looks_findIn X hs).here ?_)))))
  refine wpAny_bind (wpAny_askSetting (wpAny_ite ?_))
  have fin : wpAny (model prog w) A (call (.builtin id) ([.ref x] ++ args) >>= fun v => pure (some v)) Q E s := wpAny_bind (wpAny_mono h (fun v s' h' => wpAny_pure h') fun _ _ h' => h')
  split
  · exact wpAny_bind ((PySem.W.Looks.of_pure (hb _)).here (wpAny_pure (by exact fin)))
  · exact wpAny_tryCatch (wpAny_bind ((PySem.W.Looks.of_pure (hb _)).here (wpAny_pure (by exact fin))))
section
variable {X : Cx} {CX : CXT} {k : Nat} {f C : Addr} {fd : FuncData} {ps : List Str} {sp : Sp} {E : XK}
def rNeOwn (C : Addr) (sp : Sp) (E : XK) : R2 := fun x y H Q => ∃ a dx fs b dy gs, x = .ref a ∧ y = .ref b ∧ H a = some (.ins C dx fs) ∧ H b = some (.ins C dy gs) ∧ sp [x, y] H (fun z H' => ∃ c, z = .bl c ∧ Q (.bl (!c)) H') E
theorem op_neOwn (F : FnOk X.prog X.w X.K X.mg X.base CX k f fd ps sp) (hm : Meth X.K C "__eq__" f) (nc : NeC X.K C) (hr : Room (k + 1) X.A) (hb : Binds X.K fd ps []) (hx : Passes CX X E) : OpR X (compareOp .NotEq) (rNeOwn C sp E) := by
  intro pins s σ H x y v u Q I rx ry h
  obtain ⟨a, dx, fs, b, dy, gs, rfl, rfl, ha, hb', q⟩ := h
  cases (show v = Value.ref a from rx)
  cases (show u = Value.ref b from ry)
  obtain ⟨mA, J, _⟩ := ins_get I.hok ha
  obtain ⟨od, J, _⟩ := J.look
  obtain ⟨mB, J', _⟩ := ins_get I.hok hb'
  obtain ⟨od', J', _⟩ := J'.look
  obtain ⟨m, hF⟩ := I.fr
  show wpAny (model X.prog X.w) X.A (richCompare .NotEq (.ref a) (.ref b)) (EP X pins σ Q) X.xe s
  have run : wpAny (model X.prog X.w) X.A.in1 (call (.ref f) [.ref a, .ref b]) (fun v s' => ∃ c, v = .bool c ∧ EP X pins σ Q (.bool (!c)) s') X.xe s := by
    refine wpAny_mono (runA (us := [.ref a, .ref b]) (vs := [.ref a, .ref b]) F hr.in1 I.env0.in1 hb hx I (.cons rfl (.cons rfl .nil)) q) (fun r s' z => ?_) fun _ _ e => e
    obtain ⟨z', H', I', rz, c, ec, qz⟩ := z
    subst ec
    cases (show r = Value.bool c from rz)
    exact ⟨c, rfl, .bl (!c), H', I', rfl, qz⟩
  have one : wpAny (model X.prog X.w) X.A (tryCompare (.ref a) "__ne__" (.ref b)) (fun r s' => ∃ v, r = some v ∧ EP X pins σ Q v s') X.xe s := by
    unfold tryCompare
    refine wpAny_bind (kfo_specialB I.kIn J nc.at_ PySem.F.cmp_object.ne.bind (wpAny_call (codeAny_call_builtin PySem.F.cmp_object.ne.plain PySem.F.cmpEntry_ne (PySem.W.check_slot PySem.F.cmpKind_ne PySem.F.cmpSplit_ne (J.type.andThen (PySem.W.looks_mroIn I.kIn nc.ob)) (PySem.F.cmpArgs_ne _ _) ?_))))
    unfold Builtin.«object.__ne__»
    refine wpAny_bind (m := slotArgs "__ne__" 1 _) (wpAny_pure ?_)
    refine wpAny_bind (m := cRoomFor _ _) (wpAny_cRoomFor hr.in1.units0 ?_)
    refine wpAny_bind (m := callSpecialIfBound? (.ref a) (Str.ofString "__eq__") [.ref b]) (PySem.W.ifBound_K I.kIn J hm.at_ hm.fn (wpAny_mono run (fun r s' hr' => ?_) fun _ _ e => e))
    obtain ⟨c, rfl, hc⟩ := hr'
    refine wpAny_bind (m := truthy (.bool c)) (wpAny_truthy_bool ?_)
    refine wpAny_pure ?_
    exact wpAny_pure ⟨_, rfl, hc⟩
  unfold richCompare
  simp only [oneThing_ref]
  refine wpAny_holding (wpAny_bind (wpAny_cRoomFor hr.units0 ?_))
  rw [cmpInfo_NotEq]
  dsimp only
  refine wpAny_bind (J.type.here (wpAny_bind (J'.type.here ?_)))
  rw [show (Value.ref C != Value.ref C) = false from by simp]
  simp only [Bool.false_eq_true, if_false]
  refine wpAny_bind (wpAny_pure ?_)
  simp only [Bool.false_eq_true, if_false]
  refine wpAny_bind (wpAny_mono one (fun r s' z => ?_) fun _ _ e => e)
  obtain ⟨v, rfl, hq⟩ := z
  exact wpAny_pure hq
end
theorem hr64 {k : Nat} {A : Around} (r : Room k A) : A.units + 64 < cLine := by
  have := r.un
  omega
/-- a test that compares, the last of its block: the first side first -/
theorem pl_ifop {σ : L2.St} {H : Hp} {D : Ends} {ta tb : TE} {r : R2} {t u : TS} (h : ta σ H fun x H1 => tb σ H1 fun y H2 => r x y H2 fun z H3 => ∃ b, z = .bl b ∧ (if b = true then t D σ H3 else u D σ H3)) : tIfS (tB (tOp r ta tb)) t u D σ H := h

/-! v not in x, x with an own __contains__ -/
section
variable {X : Cx} {CX : CXT} {k : Nat} {f C : Addr} {fd : FuncData} {ps : List Str} {sp : Sp} {E : XK}
def rNotInOwn (C : Addr) (sp : Sp) (E : XK) : R2 := fun x y H Q => ∃ a dx fs, y = .ref a ∧ H a = some (.ins C dx fs) ∧ sp [y, x] H (fun z H' => ∃ b, z = .bl b ∧ Q (.bl (!b)) H') E
theorem op_notInOwn (F : FnOk X.prog X.w X.K X.mg X.base CX k f fd ps sp) (hm : Meth X.K C "__contains__" f) (hr : Room k X.A) (hb : Binds X.K fd ps []) (hx : Passes CX X E) : OpR X (compareOp .NotIn) (rNotInOwn C sp E) := by
  intro pins s σ H x y v u Q I rx ry h
  obtain ⟨a, dx, fs, rfl, ha, q⟩ := h
  cases (show u = Value.ref a from ry)
  obtain ⟨mA, J, _⟩ := ins_get I.hok ha
  obtain ⟨od, J, _⟩ := J.look
  obtain ⟨m, hF⟩ := I.fr
  refine PySem.W.notIn_K hF I.ok.mod.kin J hm.at_ hm.fn ?_
  refine wpAny_mono (runA (us := [.ref a, v]) (vs := [.ref a, x]) F hr I.env0 hb hx I (.cons rfl (.cons rx .nil)) q) (fun r s' z => ?_) fun _ _ e => e
  obtain ⟨z', H', I', rz, b, eb, qz⟩ := z
  subst eb
  cases (show r = Value.bool b from rz)
  exact wpAny_truthy_bool ⟨.bl (!b), H', I', rfl, qz⟩
end

/-! a block, then the rest: what holds between them is named -/
theorem s_seq {t U : TS} {D : Ends} {σ : L2.St} {H : Hp} (P : L2.St → Hp → Prop) (k : ∀ σ' H', P σ' H' → U D σ' H') (h : (∀ σ' H', P σ' H' → U D σ' H') → tSeq t U D σ H) : tSeq t U D σ H := h k
theorem pl_rop {σ : L2.St} {H : Hp} {D : Ends} {ta tb : TE} {r : V → V → Hp → VK → Prop} (h : ta σ H fun x H1 => tb σ H1 fun y H2 => r x y H2 D.rt) : tRet (tOp r ta tb) D σ H := h
theorem pl_ifb {σ : L2.St} {H : Hp} {D : Ends} {X : TE} {r : List V → Hp → VK → Prop} {t u U : TS} (h : X σ H fun v H1 => r [v] H1 fun z H2 => ∃ b, z = .bl b ∧ (if b = true then t { D with nx := U D } σ H2 else u { D with nx := U D } σ H2)) : tSeq (tIfS (tB (tCB r (tCons X tNil))) t u) U D σ H := h

/-! readings, one step on -/
theorem pl_lstV {ta : TA} {σ : L2.St} {H : Hp} {Q : VK} (h : ta σ H fun xs H1 => xs.length ≤ sizeLine ∧ ∀ p, H1 p = none → Q (.ref p) (upd H1 p (.lst xs))) : tLst ta σ H Q := h
theorem pl_parV {ta : TA} {i j : Nat} {U : TS} {D : Ends} {σ : L2.St} {H : Hp} (h : ta σ H fun vs H1 => ∃ v w, vs = [v, w] ∧ U D ((σ.set i (some v)).set j (some w)) H1) : tSeq (tPar i j ta) U D σ H := h

/-! slices that begin at the front, that end at the end -/
theorem cutV_to {xs : List V} {m : Nat} (h : m ≤ xs.length) : cutV xs none (some (m : Nat)) = xs.take m := by
  have e : HT.sIx xs.length xs.length (some ((m : Nat) : Int)) = m := by
    unfold HT.sIx
    simp
    split <;> omega
  unfold cutV
  rw [e]
  have e2 : HT.sIx xs.length 0 none = 0 := rfl
  rw [e2]
  rfl
theorem cutV_from {xs : List V} {m : Nat} (h : m ≤ xs.length) : cutV xs (some (m : Nat)) none = xs.drop m := by
  have e : HT.sIx xs.length 0 (some ((m : Nat) : Int)) = m := by
    unfold HT.sIx
    simp
    split <;> omega
  unfold cutV
  rw [e]
  have e2 : HT.sIx xs.length xs.length none = xs.length := rfl
  rw [e2]
  exact List.take_of_length_le (by rw [List.length_drop]; exact Nat.le_refl _)

def sp_law (K : PySem.W.Frag) : Sp := fun vs H Q _ => ∃ (a : Addr) (ns : List Int), vs = [.ref a] ∧ SqL K H a (ns.map V.int) ∧ ns.length ≤ 63 ∧ (∀ z ∈ ns, Builtin.Int.intBits z ≤ 1048576) ∧ ∀ H', Q (.bl true) H'
abbrev NL : List Str := ["_law_script", "_law_k", "_law_pool_here", "_law_name", "_law_top", "_law_given", "_law_seat", "_law_one", "_law_odd", "_law_part", "_law_value_here", "_law_parts", "_law_is_same", "_law_other", "_law_odds", "_law_at", "_law_some"]
theorem colFs_allv {n : Str} {g : Int} {d : V} {k : Int} : (colFs n g d k).lookup ("all_values" : Str) = none := by
  have g1 : (("all_values" : Str) == "name") = false := by decide +kernel
  have g2 : (("all_values" : Str) == "greatest") = false := by decide +kernel
  have g3 : (("all_values" : Str) == "default") = false := by decide +kernel
  have g4 : (("all_values" : Str) == "number") = false := by decide +kernel
  unfold colFs
  simp [List.lookup, g1, g2, g3, g4]
theorem pl_tst2 {σ : L2.St} {H : Hp} {ta tb : TE} {r : V → V → Hp → VK → Prop} {Q : Bool → Hp → Prop} (h : ta σ H fun x H1 => tb σ H1 fun y H2 => r x y H2 fun v H3 => ∃ b, v = .bl b ∧ Q b H3) : tTest (tOp r ta tb) σ H Q := h
theorem valT {g : Int} {v : V} (h : isIn g v = true) : ∃ t, flatT v = some t := by
  cases v with
  | non => exact ⟨_, rfl⟩
  | int j => exact ⟨_, rfl⟩
  | _ => cases h
theorem sqT_tupL {H : Hp} {a : Addr} {xs : List V} (h : SqT K H a xs) : TyX K H (.ref a) (.type "tuple") := by
  rcases h with (h | ⟨o, h⟩) | ⟨o, its, n, h, hc, _⟩
  · exact .base (.tup h)
  · exact .fTuple h
  · exact .kTuple h hc
theorem kne {x y : Str} {v : V} (h : ¬ x = y) : ¬ ((Sum.inr x : Key), v).1 = Sum.inr y := fun z => h (Sum.inr.inj z)
theorem bad0 {n g d k : V} (h : isNm n = false) : badC n g d k = some ("name" : Str) := if_pos h
theorem bad1 {n g d k : V} (h : isNm n = true) (h1 : isGr g = false) : badC n g d k = some ("greatest" : Str) := by
  unfold badC
  rw [if_neg (by rw [h]; decide), if_pos h1]
theorem bad2 {n d k : V} {g : Int} (h : isNm n = true) (h1 : isGr (.int g) = true) (h2 : isIn g d = false) : badC n (.int g) d k = some ("default" : Str) := by
  unfold badC
  rw [if_neg (by rw [h]; decide), if_neg (by rw [h1]; decide)]
  exact if_pos h2
theorem bad3 {n d k : V} {g : Int} (h : isNm n = true) (h1 : isGr (.int g) = true) (h2 : isIn g d = true) (h3 : ∀ j, k = .int j → j < 0) : badC n (.int g) d k = some ("number" : Str) := by
  unfold badC
  rw [if_neg (by rw [h]; decide), if_neg (by rw [h1]; decide), if_neg (by show ¬ isIn g d = false; rw [h2]; decide)]
  refine if_pos ?_
  cases k with
  | int j => exact decide_eq_false (by have := h3 j rfl; omega)
  | _ => rfl
def GoodO (K : PySem.W.Frag) (H : Hp) (nm : Str) (top : Int) (gv : V) (st : Int) (j : Nat) (x : V) : Prop := ∃ (n g d k : V) (q : Str) (n' g' d' k' : V), (([.str nm, .int top, gv] : List V).take j ++ [x]) ++ ([.non, .non, .int (-1), .non] : List V).drop (j + 1) = [n, g, d, k] ∧ P4[j]? = some (.str q) ∧ badC n g d k = some q ∧ wordV (.str q) P4 = true ∧ okR (.str q) = true ∧
  fourF q x (.str nm) (.int top) gv (.int st) = (n', g', d', k') ∧ badC n' g' d' k' = some q ∧ TyAll K H n ∧ TyAll K H g ∧ TyAll K H d ∧ TyAll K H k ∧ TyAll K H x ∧ (∀ z, n = .str z → z.length ≤ 1000) ∧ ∀ z, x = .str z → z.length ≤ 1000
section
variable {H : Hp} {nm : Str} {top : Int} {gv : V} {st : Int} {x : V}
theorem good0 (h : isNm x = false) (ty : TyAll K H x) (hx : ∀ z, x = .str z → z.length ≤ 1000) : GoodO K H nm top gv st 0 x :=
  ⟨x, .non, .int (-1), .non, "name", x, .int top, gv, .int st, rfl, rfl, bad0 h, by decide +kernel, by decide +kernel, by unfold fourF; rw [if_pos rfl], bad0 h, ty, tyAll_non, tyAll_int _, tyAll_non, ty, hx, hx⟩
theorem good1 (hn : isNm (.str nm) = true) (hl : nm.length ≤ 1000) (h : isGr x = false) (ty : TyAll K H x) (hx : ∀ z, x = .str z → z.length ≤ 1000) : GoodO K H nm top gv st 1 x :=
  ⟨.str nm, x, .int (-1), .non, "greatest", .str nm, x, gv, .int st, rfl, rfl, bad1 hn h, by decide +kernel, by decide +kernel, by unfold fourF; rw [if_neg (by decide +kernel), if_pos rfl], bad1 hn h, tyAll_str _, ty, tyAll_int _, tyAll_non, ty, (fun z e => by cases e; exact hl), hx⟩
theorem good2 (hn : isNm (.str nm) = true) (hl : nm.length ≤ 1000) (hg : isGr (.int top) = true) (h : isIn top x = false) (ty : TyAll K H x) (hx : ∀ z, x = .str z → z.length ≤ 1000) : GoodO K H nm top gv st 2 x :=
  ⟨.str nm, .int top, x, .non, "default", .str nm, .int top, x, .int st, rfl, rfl, bad2 hn hg h, by decide +kernel, by decide +kernel, by unfold fourF; rw [if_neg (by decide +kernel), if_neg (by decide +kernel), if_pos rfl], bad2 hn hg h, tyAll_str _, tyAll_int _, ty, tyAll_non, ty, (fun z e => by cases e; exact hl), hx⟩
theorem good3 (hn : isNm (.str nm) = true) (hl : nm.length ≤ 1000) (hg : isGr (.int top) = true) (hd : isIn top gv = true) (tg : TyAll K H gv) (h : ∀ j, x = .int j → j < 0) (ty : TyAll K H x) (hx : ∀ z, x = .str z → z.length ≤ 1000) : GoodO K H nm top gv st 3 x :=
  ⟨.str nm, .int top, gv, x, "number", .str nm, .int top, gv, x, rfl, rfl, bad3 hn hg hd h, by decide +kernel, by decide +kernel, by unfold fourF; rw [if_neg (by decide +kernel), if_neg (by decide +kernel), if_neg (by decide +kernel)], bad3 hn hg hd h, tyAll_str _, tyAll_int _, tg, ty, ty, (fun z e => by cases e; exact hl), hx⟩
end
theorem ok_law (T : Tx K mg) {fd : FuncData} (F : FunD K "law" "law" (defArgs s_law) (defBody s_law) (defScope s_law) (d_law.dvs K) (d_law.kws K) (He.ga K "law") fd) : FnG P w K mg base CX0 9 (He.ga K "law") fd ["_law_script"] (sp_law K) := by
  have Cpool := (ok_pool (P := P) (w := w) (base := base) T).up (show 1 ≤ 8 by decide)
  have Cpick := (ok_pick (P := P) (w := w) (base := base) T).up (show 2 ≤ 8 by decide)
  have Cdraw := (ok_draw (P := P) (w := w) (base := base) T).up (show 1 ≤ 8 by decide)
  have Cval := (ok_value (P := P) (w := w) (base := base) T).up (show 3 ≤ 8 by decide)
  have Ctold := (ok_told2 (P := P) (w := w) (base := base) T).up (show 6 ≤ 8 by decide)
  have Cchg := ok_chg2 (P := P) (w := w) (base := base) T
  obtain ⟨fdI, GI, FI⟩ := ok_Col_init (P := P) (w := w) (base := base) T
  obtain ⟨_, _, kb⟩ := kbinds_Col T FI
  obtain ⟨dsI, vI2, bI2⟩ := binds_Col2 T FI
  obtain ⟨fdA, GA, bA⟩ := ok_all_values (P := P) (w := w) (base := base) T
  obtain ⟨fdN, FN, bN⟩ := ok_Col_eqN (P := P) (w := w) (base := base) T
  obtain ⟨fdQ, FQ, bQ⟩ := ok_Col_eq (P := P) (w := w) (base := base) T
  obtain ⟨fdC, GC, bC⟩ := ok_contains (P := P) (w := w) (base := base) T
  obtain ⟨fdG, FG, bG⟩ := ok_changed (P := P) (w := w) (base := base) T
  have gr : mg "range" = none := fr_range T
  have cl := cl_Column T
  refine fnG_by F (CX := CX0) (N := NL) sc_law (fun vs H Q E h => ?_) (fun cdv A outer s H vs Q E hA hr h => ?_)
  · obtain ⟨a, ns, rfl, _⟩ := h
    rfl
  suffices hh : ∃ t, PSs (cxOf CX0 P w K mg base NL "law" (defScope s_law) (He.ga K "law") cdv A outer s H E).nox (defBody s_law) t ∧ t { nx := fun _ H' => Q .non H', rt := Q } (start NL vs) H by
    obtain ⟨t, h1, h2⟩ := hh
    exact ⟨t, h1.nox, h2⟩
  obtain ⟨a, ns, rfl, hs, hlen, _, kk⟩ := h
  have nd := sc_law.nd
  have hu := hu_of hr
  have hr1 : Room 1 _ := hr.mono (by decide)
  have hr2 : Room 2 _ := hr.mono (by decide)
  have hr4 : Room 4 _ := hr.mono (by decide)
  have hr5 : Room 5 _ := hr.mono (by decide)
  have hr6 : Room 6 _ := hr.mono (by decide)
  have hun := hr.un
  have hun2 := Nat.lt_of_le_of_lt (Nat.le_trans (Nat.add_le_add_left (show 70 ≤ 16 * 8 + 200 by decide) _) (Nat.le_of_eq (Nat.add_assoc _ _ _).symm)) hun
  have hz : sizeLine = 16777216 := by decide
  refine ⟨_, (pss_cons (ps_for PassesOwn.never rfl (pi_range1 (by rfl) gr (pa_cons (pe_callB (call_max2 rfl) (by rfl) (fr_max T) (by decide +kernel) (pa_cons pe_int (pa_cons (pe_callB (call_min2 rfl) (by rfl) (fr_min T) (by decide +kernel) (pa_cons (pe_callB call_len (by rfl) (fr_len T) PySem.boot_len (pa_cons (pv 0) pa_nil)) (pa_cons pe_int pa_nil))) pa_nil))) pa_nil)) (pg_name (i := 1) nd rfl (Or.inl rfl)) (pss_cons (ps_set (i := 2) nd rfl (Or.inl rfl) (pcall Cpool hr (pa_cons (pv 0) (pa_cons (pv 1) pa_nil))))
        (pss_cons (ps_par (i := 3) (j := 4) rfl nd rfl rfl (by decide) rfl rfl (pa_cons (pcall Cpick hr (pa_cons (pv 2) (pa_cons (pe_lst (pa_cons pe_str (pa_cons pe_str (pa_cons pe_str pa_nil)))) pa_nil))) (pa_cons (pe_op op_add pe_int (pcall Cdraw hr (pa_cons (pv 2) (pa_cons pe_int pa_nil)))) pa_nil)) (by rfl))
        (pss_cons (ps_par (i := 5) (j := 6) rfl nd rfl rfl (by decide) rfl rfl (pa_cons (pcall Cval hr (pa_cons (pv 2) (pa_cons (pv 4) pa_nil))) (pa_cons (pcall Cdraw hr (pa_cons (pv 2) (pa_cons pe_int pa_nil))) pa_nil)) (by rfl))
        (pss_cons (ps_set (i := 7) nd rfl (Or.inr rfl) (pe_makeK (mk_Column T) GI hr5 (by rfl) (mg_Column T) kb pass0 (pa_cons (pv 3) (pa_cons (pv 4) (pa_cons (pv 5) pa_nil))) (pk_cons (pv 6) pk_nil)))
        (pss_cons (ps_if (PW.pt (pw_or (pt_cmpR (op_neG mon_flat eqG_flat hr1) (pe_lst (pa_cons (pe_fld (pv 7) rfl) (pa_cons (pe_fld (pv 7) rfl) (pa_cons (pe_fld (pv 7) rfl) (pa_cons (pe_fld (pv 7) rfl) pa_nil))))) (pe_lst (pa_cons (pv 3) (pa_cons (pv 4) (pa_cons (pv 5) (pa_cons (pv 6) pa_nil))))) (nomark _)) (pw_or1 (pt_cmpR (op_eqFlat (ex_Column_nin T) FN (me_Column___eq__ T) hr1 bN pass0) (pv 7) (pv 3) (nomark _))))) (pss_one (ps_ret pe_bl)) pss_nil)
        (pss_cons (ps_if (PW.pt (pw_or (pt_cmpR (op_neG mon_flat eqG_flat hr1) (pe_meth0 (pv 7) cl (me_Column_all_values T) GA hr2 bA .nil pass0) (pe_op op_cat (pe_lst (pa_cons pe_non pa_nil)) (pe_listRg rfl (by rfl) (fr_list T) (prg_1 (by rfl) (fr_range T) (pe_op op_add (pv 4) pe_int)))) (nomark _)) (pw_or1 (pt_cmpR (op_neG mon_flat eqG_flat hr1) (pe_lst (pa_cons (pe_fld (pe_make (mk_Column T) GI hr5 (by rfl) (mg_Column T) bI2 vI2 pass0 (pa_cons (pv 3) (pa_cons (pv 4) pa_nil))) rfl) (pa_cons (pe_fld (pe_make (mk_Column T) GI hr5 (by rfl) (mg_Column T) bI2 vI2 pass0 (pa_cons (pv 3) (pa_cons (pv 4) pa_nil))) rfl) pa_nil))) (pe_lst (pa_cons pe_non (pa_cons pe_int pa_nil))) (nomark _))))) (pss_one (ps_ret pe_bl)) pss_nil)
        (pss_cons (ps_expr (pe_bm PySem.F.plainAttrs_list PySem.F.slot_list_append PySem.F.type_list_append mt_append (pe_meth0 (pv 7) cl (me_Column_all_values T) GA hr2 bA .nil pass0) (pa_cons pe_int pa_nil)))
        (pss_cons (ps_if (PW.pt (pw_or (pt_cmpR (op_neG mon_flat eqG_flat hr1) (pe_lc (own := [("_law_odd", 8)]) (g := gName 8) (tt := tTest (tOp (rNotInOwn (He.ga K "Column") (sp_contains K) E0) (tVar 8) (tVar 7))) (te := tVar 8) rfl nd (pi_list (pe_lst (pa_cons pe_non (pa_cons pe_int (pa_cons (pv 4) pa_nil))))) (blkOk_by (N := NL) (sc := defScope s_law) (by decide +kernel)) (fun _ _ _ _ _ => (pg_name (i := 8) nd rfl (Or.inl rfl))) (fun _ _ _ _ _ => pts_one (pt_cmpR (op_notInOwn GC (me_Column___contains__ T) hr4 bC pass0) (pv 8) (pv 7) (by rfl))) (fun _ _ _ _ _ => (pv 8))) (pe_lst pa_nil) (nomark _)) (pw_or1 (pt_cmpR (op_neG mon_flat eqG_flat hr1) (pe_lc (own := [("_law_odd", 8)]) (g := gName 8) (tt := tTest (tOp (rInOwn (He.ga K "Column") (sp_contains K) E0) (tVar 8) (tVar 7))) (te := tVar 8) rfl nd (pi_list (pe_lst (pa_cons (pe_un un_neg pe_int) (pa_cons (pe_op op_add (pv 4) pe_int) (pa_cons pe_bl (pa_cons pe_str (pa_cons (pe_tup (pa_cons pe_int pa_nil)) pa_nil))))))) (blkOk_by (N := NL) (sc := defScope s_law) (by decide +kernel)) (fun _ _ _ _ _ => (pg_name (i := 8) nd rfl (Or.inl rfl))) (fun _ _ _ _ _ => pts_one (pt_cmpR (op_inOwn GC (me_Column___contains__ T) hr4 bC pass0) (pv 8) (pv 7) (by rfl))) (fun _ _ _ _ _ => (pv 8))) (pe_lst pa_nil) (nomark _))))) (pss_one (ps_ret pe_bl)) pss_nil)
        (pss_cons (ps_for PassesOwn.never rfl (pi_list (pe_lst (pa_cons (pe_tup (pa_cons pe_str (pa_cons pe_str pa_nil))) (pa_cons (pe_tup (pa_cons pe_str (pa_cons pe_int pa_nil))) (pa_cons (pe_tup (pa_cons pe_str (pa_cons pe_int pa_nil))) (pa_cons (pe_tup (pa_cons pe_str (pa_cons pe_non pa_nil))) (pa_cons (pe_tup (pa_cons pe_str (pa_cons pe_int pa_nil))) pa_nil))))))) (pg_tup rfl (pgs_cons (pg_name (i := 9) nd rfl (Or.inl rfl)) (pgs_cons (pg_name (i := 10) nd rfl (Or.inl rfl)) pgs_nil))) (pss_cons (ps_set (i := 11) nd rfl (Or.inl rfl) (pe_disp (pps_cons pe_str (pv 3) (pps_cons pe_str (pv 4) (pps_cons pe_str (pv 5) (pps_cons pe_str (pv 6) pps_nil)))) (by rfl) (by rfl) (fun z => by cases z) (by decide)))
        (pss_cons (ps_set (i := 12) nd rfl (Or.inl rfl) (pe_cmpR op_eq (pe_dget hu (pv 11) (pv 9) (fun _ _ => rfl)) (pv 10) (nomark _)))
        (pss_cons (ps_dput hu (pv 11) (pv 9) (pv 10) rfl)
        (pss_cons (ps_set (i := 13) nd rfl (Or.inl rfl) (pe_makeK (mk_Column T) GI hr5 (by rfl) (mg_Column T) kb pass0 (pa_cons (pe_dget hu (pv 11) pe_str (fun _ _ => rfl)) (pa_cons (pe_dget hu (pv 11) pe_str (fun _ _ => rfl)) (pa_cons (pe_dget hu (pv 11) pe_str (fun _ _ => rfl)) pa_nil))) (pk_cons (pe_dget hu (pv 11) pe_str (fun _ _ => rfl)) pk_nil)))
        (pss_one (ps_if (PW.pt (pw_or (pt_cmpR (op_neOwn FQ (me_Column___eq__ T) (neC_of (ex_Column_ne T)) hr2 bQ pass0) (pe_meth (pv 7) cl (me_Column_changed T) FG hr6 bG .nil pass0 (pa_cons (pv 9) (pa_cons (pv 10) pa_nil))) (pv 13) (nomark _)) (pw_or1 (pt_cmpR op_ne (pe_cmpR (op_eqOwn FQ (me_Column___eq__ T) hr1 bQ pass0) (pv 7) (pv 13) (nomark _)) (pv 12) (nomark _))))) (pss_one (ps_ret pe_bl)) pss_nil)))))))
        (pss_cons (ps_set (i := 14) nd rfl (Or.inl rfl) (pe_lst (pa_cons (pe_lst (pa_cons pe_non (pa_cons pe_int (pa_cons pe_str (pa_cons pe_str (pa_cons pe_str (pa_cons pe_str pa_nil))))))) (pa_cons (pe_lst (pa_cons pe_non (pa_cons pe_int (pa_cons pe_int (pa_cons pe_bl (pa_cons pe_str pa_nil)))))) (pa_cons (pe_lst (pa_cons (pe_un un_neg pe_int) (pa_cons (pe_op op_add (pv 4) pe_int) (pa_cons pe_bl (pa_cons pe_str (pa_cons (pe_tup (pa_cons pe_int pa_nil)) pa_nil)))))) (pa_cons (pe_lst (pa_cons pe_non (pa_cons (pe_un un_neg pe_int) (pa_cons pe_bl (pa_cons pe_str pa_nil))))) pa_nil))))))
        (pss_cons (ps_for PassesOwn.never rfl (pi_range1 (by rfl) gr (pa_cons pe_int pa_nil)) (pg_name (i := 15) nd rfl (Or.inl rfl)) (pss_one (ps_for PassesOwn.never rfl (pi_list (pe_ix ix_list (pv 14) (pv 15) (fun _ _ => rfl))) (pg_name (i := 8) nd rfl (Or.inl rfl)) (pss_cons (ps_set (i := 16) nd rfl (Or.inl rfl) (pe_op op_cat (pe_op op_cat (pe_slice sl_list (pe_lst (pa_cons (pv 3) (pa_cons (pv 4) (pa_cons (pv 5) pa_nil)))) po_none (po_some (pv 15))) (pe_lst (pa_cons (pv 8) pa_nil))) (pe_slice sl_list (pe_lst (pa_cons pe_non (pa_cons pe_non (pa_cons (pe_un un_neg pe_int) (pa_cons pe_non pa_nil))))) (po_some (pe_op op_add (pv 15) pe_int)) po_none)))
        (pss_cons (ps_if (pt_cmpR op_ne (pcall Ctold hr (pa_cons (pv 16) pa_nil)) (pe_ix ix_list (pe_lst (pa_cons pe_str (pa_cons pe_str (pa_cons pe_str (pa_cons pe_str pa_nil))))) (pv 15) (fun _ _ => rfl)) (nomark _)) (pss_one (ps_ret pe_bl)) pss_nil)
        (pss_one (ps_if (pt_cmpR op_ne (pcallG Cchg hA hr (pa_cons (pv 7) (pa_cons (pe_ix ix_list (pe_lst (pa_cons pe_str (pa_cons pe_str (pa_cons pe_str (pa_cons pe_str pa_nil))))) (pv 15) (fun _ _ => rfl)) (pa_cons (pv 8) pa_nil)))) (pe_callB (call_reprA hA hun2) (by rfl) (fr_repr T) (by decide +kernel) (pa_cons (pe_ix ix_list (pe_lst (pa_cons pe_str (pa_cons pe_str (pa_cons pe_str (pa_cons pe_str pa_nil))))) (pv 15) (fun _ _ => rfl)) pa_nil)) (nomark _)) (pss_one (ps_ret pe_bl)) pss_nil)))))))
        (pss_cons (ps_for PassesOwn.never rfl (pi_list (pe_lst (pa_cons pe_non (pa_cons pe_int (pa_cons pe_str (pa_cons pe_str (pa_cons (pe_lst (pa_cons pe_str pa_nil)) pa_nil))))))) (pg_name (i := 8) nd rfl (Or.inl rfl)) (pss_one (ps_if (pt_cmpR op_ne (pcallG Cchg hA hr (pa_cons (pv 7) (pa_cons (pv 8) (pa_cons pe_int pa_nil)))) (pe_callB (call_reprA hA hun2) (by rfl) (fr_repr T) (by decide +kernel) (pa_cons (pv 8) pa_nil)) (nomark _)) (pss_one (ps_ret pe_bl)) pss_nil)))
        (pss_one (ps_if (PW.pt (pw_and (pt_cmpR op_gt (pv 4) pe_int (nomark _)) (pw_and1 (pt_cmpR op_ne (pcallG Cchg hA hr (pa_cons (pe_meth (pv 7) cl (me_Column_changed T) FG hr6 bG .nil pass0 (pa_cons pe_str (pa_cons (pv 4) pa_nil))) (pa_cons pe_str (pa_cons (pe_op op_sub (pv 4) pe_int) pa_nil)))) (pe_callB (call_reprA hA hun2) (by rfl) (fr_repr T) (by decide +kernel) (pa_cons pe_str pa_nil)) (nomark _))))) (pss_one (ps_ret pe_bl)) pss_nil)))))))))))))))
      (pss_one (ps_ret pe_bl))), ?_⟩
  refine ⟨_, rfl, _, (ns.map V.int).length, rfl, .inl ⟨_, hs, rfl⟩, _, _, rfl, _, _, rfl, _, rfl, ?_, ?_, ?_⟩
  · split <;> (try split) <;> omega
  · split <;> (try split) <;> omega
  generalize hN : (if (if (2 : Int) < (((ns.map V.int).length : Nat) : Int) then (2 : Int) else (((ns.map V.int).length : Nat) : Int)) > 1 then (if (2 : Int) < (((ns.map V.int).length : Nat) : Int) then (2 : Int) else (((ns.map V.int).length : Nat) : Int)) else 1) = nT
  have hT2 : nT ≤ 2 := by
    rw [← hN]
    split <;> (try split) <;> omega
  refine for_range (lo := 0) (n := nT.toNat) (fun i σ H' => Same H H' ∧ ∃ y1 y2 y3 y4 y5 y6 y7 y8 y9 y10 y11 y12 y13 y14 y15 y16 : Option V, σ = [some (.ref a), y1, y2, y3, y4, y5, y6, y7, y8, y9, y10, y11, y12, y13, y14, y15, y16]) ⟨Same.refl _, _, _, _, _, _, _, _, _, _, _, _, _, _, _, _, _, rfl⟩ ?_ ?_
  case refine_2 =>
    rintro σ H' ⟨_, y1, y2, y3, y4, y5, y6, y7, y8, y9, y10, y11, y12, y13, y14, y15, y16, rfl⟩
    exact kk H'
  rintro i σ H0 hi ⟨sH, y1, y2, y3, y4, y5, y6, y7, y8, y9, y10, y11, y12, y13, y14, y15, y16, rfl⟩
  have hk0 : 0 ≤ (0 : Int) + (i : Int) := by omega
  have hk1 : (0 : Int) + (i : Int) ≤ 1000 := by omega
  generalize hkk : (0 : Int) + (i : Int) = kI at hk0 hk1
  refine q_asgX ⟨_, rfl, _, rfl, a, ns, kI, rfl, sH.seq hs, hk0, hk1, fun p H1 z0 z1 np s1 hp => ?_⟩
  refine pl_parV ?_
  refine ⟨_, rfl, by show 3 ≤ sizeLine; decide, fun l nl => ?_⟩
  have npl : l ≠ p := fun z => by rw [z, hp] at nl; cases nl
  refine ⟨p, l, z0, z1, _, rfl, same_new nl _ _ hp, upd_same, npl, (by show 0 < 3; decide), (by show 3 < 1000000; decide), fun x e0 e1 hx => ?_⟩
  have h2 : upd (upd H1 l (.lst [.str "a", .str "zz", .str "abcdefgh"])) p (.lst [.int e0, .int e1]) p = some (.lst [.int e0, .int e1]) := upd_same
  have s2 : Same H0 (upd (upd H1 l (.lst [.str "a", .str "zz", .str "abcdefgh"])) p (.lst [.int e0, .int e1])) := same_mut (s1.trans (same_new nl)) np
  generalize upd (upd H1 l (.lst [.str "a", .str "zz", .str "abcdefgh"])) p (.lst [.int e0, .int e1]) = H2 at h2 s2 ⊢
  have hx2 : ∃ n : Str, x = .str n ∧ isNm (.str n) = true ∧ n.length ≤ 8 := by
    simp only [List.mem_cons, List.not_mem_nil, or_false] at hx
    rcases hx with rfl | rfl | rfl
    · exact ⟨_, rfl, by decide +kernel, by decide +kernel⟩
    · exact ⟨_, rfl, by decide +kernel, by decide +kernel⟩
    · exact ⟨_, rfl, by decide +kernel, by decide +kernel⟩
  obtain ⟨nm, rfl, hnm, hnl⟩ := hx2
  refine ⟨_, rfl, p, e0, e1, 99, rfl, h2, by decide, by decide, fun r u0 u1 r0 r1 => ⟨_, _, rfl, rfl, _, _, rfl, ?_⟩⟩
  have h3 : upd H2 p (.lst [.int u0, .int u1]) p = some (.lst [.int u0, .int u1]) := upd_same
  have s3 : Same H0 (upd H2 p (.lst [.int u0, .int u1])) := same_mut s2 np
  generalize upd H2 p (.lst [.int u0, .int u1]) = H3 at h3 s3 ⊢
  dsimp only
  obtain ⟨top, htop⟩ : ∃ z : Int, z = 1 + r := ⟨_, rfl⟩
  rw [← htop]
  have top1 : 1 ≤ top := by omega
  have top99 : top ≤ 99 := by omega
  have hgr : isGr (.int top) = true := by
    show (decide (1 ≤ top) && decide (top ≤ 99)) = true
    rw [decide_eq_true top1, decide_eq_true top99]
    rfl
  clear htop r0 r1 r
  refine pl_parV ?_
  refine ⟨_, rfl, _, rfl, p, u0, u1, top, rfl, h3, by omega, by omega, fun gv v0 v1 H4 hd b4 h4 => ?_⟩
  refine ⟨_, rfl, p, v0, v1, 50, rfl, h4, by decide, by decide, fun st w0 w1 st0 st1 => ⟨_, _, rfl, ?_⟩⟩
  have s5 : Same H0 (upd H4 p (.lst [.int w0, .int w1])) := same_mut (b4.same s3 np) np
  generalize upd H4 p (.lst [.int w0, .int w1]) = H5 at s5 ⊢
  clear h4 b4 h3 s3 h2 s2 hp s1 npl
  -- the column
  refine q_asgX ⟨_, rfl, _, rfl, _, rfl, _, rfl, rfl, rfl, fun c dx nc ndx ndc => ?_⟩
  refine ⟨c, dx, nm, top, st, gv, rfl, upd_same, hnm, hgr, hd, st0, fun H6 hc k6 => ⟨rfl, ?_⟩⟩
  have s6 : Same H0 H6 := fun b o e => k6 b o (ne_of_none (s5 _ _ e) nc) (by rw [upd_ne (ne_of_none (s5 _ _ e) nc), upd_ne (ne_of_none (s5 _ _ e) ndx)]; exact s5 _ _ e)
  obtain ⟨dxc, hcc⟩ := id hc
  obtain ⟨tgv, htg⟩ := valT hd
  clear k6 ndc ndx nc s5
  dsimp only
  -- its parts
  refine ⟨_, rfl, c, _, dxc, _, _, rfl, hcc, cl, na_Column_name T, colFs_name, _, rfl, c, _, dxc, _, _, rfl, hcc, cl, na_Column_greatest T, colFs_greatest, _, rfl, c, _, dxc, _, _, rfl, hcc, cl, na_Column_default T, colFs_default, _, rfl, c, _, dxc, _, _, rfl, hcc, cl, na_Column_number T, colFs_number, by show 4 ≤ sizeLine; decide, fun l1 n1 => ?_⟩
  refine ⟨_, rfl, _, rfl, _, rfl, _, rfl, by show 4 ≤ sizeLine; decide, fun l2 n2 => ?_⟩
  have sA := same_new (o := .lst [.str nm, .int top, gv, .int st]) n2
  refine ⟨⟨l1, l2, _, _, rfl, rfl, sA _ _ upd_same, upd_same, dflats fun x hx => ?_⟩, fun H7 e7 => ⟨_, rfl, iteF ?_⟩⟩
  · simp only [List.mem_cons, List.not_mem_nil, or_false] at hx
    rcases hx with rfl | rfl | rfl | rfl
    · exact ⟨_, rfl⟩
    · exact ⟨_, rfl⟩
    · exact ⟨_, htg⟩
    · exact ⟨_, rfl⟩
  have s67 : Same H6 H7 := ((same_new n1).trans sA).trans e7
  have hc7 := s67 _ _ hcc
  refine ⟨_, rfl, _, rfl, c, dxc, _, "str", rfl, hc7, rfl, c, _, _, rfl, rfl, _, rfl, _, rfl, iteF (nxt ?_)⟩
  dsimp only
  -- all values
  refine ⟨_, rfl, c, dxc, _, rfl, hc7, colFs_allv, c, nm, top, st, gv, rfl, ⟨dxc, hc7⟩, by omega, by omega, fun l3 H8 nl3 s8 hl3 => ?_⟩
  refine ⟨by show 1 ≤ sizeLine; decide, fun l4 n4 => ⟨_, rfl, _, _, rfl, rfl, _, rfl, .of_le (by omega) (by omega) (by omega) (by omega), fun l5 n5 => ?_⟩⟩
  refine ⟨l4, l5, _, _, rfl, rfl, same_new n5 _ _ upd_same, upd_same, ?_, fun l6 n6 => ?_⟩
  · rw [rgV_length, hz]
    show 1 + (top + 1 - 0).toNat ≤ _
    omega
  have sB : Same H8 (upd (upd (upd H8 l4 (.lst [.non])) l5 (.lst (rgV 0 (top + 1)))) l6 (.lst ([V.non] ++ rgV 0 (top + 1)))) := ((same_new n4).trans (same_new n5)).trans (same_new n6)
  have hl6 : upd (upd (upd H8 l4 (.lst [.non])) l5 (.lst (rgV 0 (top + 1)))) l6 (.lst ([V.non] ++ rgV 0 (top + 1))) l6 = some (.lst (valsTo top)) := upd_same
  generalize upd (upd (upd H8 l4 (.lst [.non])) l5 (.lst (rgV 0 (top + 1)))) l6 (.lst ([V.non] ++ rgV 0 (top + 1))) = H9 at sB hl6 ⊢
  refine ⟨⟨l3, l6, _, _, rfl, rfl, sB _ _ hl3, hl6, dflats fun x hx => valT (valsTo_in hx)⟩, fun H10 e10 => ⟨_, rfl, iteF ?_⟩⟩
  have s710 : Same H7 H10 := (s8.trans sB).trans e10
  have hc10 := s710 _ _ hc7
  clear hl6 sB hl3 s8 nl3 n4 n5 n6
  -- a Column of two values
  refine ⟨_, rfl, _, rfl, fun c2 dx2 nc2 ndx2 ndc2 => ?_⟩
  refine ⟨c2, dx2, nm, top, 0, .non, rfl, upd_same, hnm, hgr, rfl, by decide, fun H11 hc2 k11 => ⟨rfl, ?_⟩⟩
  have s11 : Same H10 H11 := fun b o e => k11 b o (ne_of_none e nc2) (by rw [upd_ne (ne_of_none e nc2), upd_ne (ne_of_none e ndx2)]; exact e)
  obtain ⟨dy2, hcc2⟩ := hc2
  refine ⟨c2, _, dy2, _, _, rfl, hcc2, cl, na_Column_default T, colFs_default, ?_⟩
  clear k11 ndc2 ndx2 nc2
  refine ⟨_, rfl, _, rfl, fun c3 dx3 nc3 ndx3 ndc3 => ?_⟩
  refine ⟨c3, dx3, nm, top, 0, .non, rfl, upd_same, hnm, hgr, rfl, by decide, fun H12 hc3 k12 => ⟨rfl, ?_⟩⟩
  have s12 : Same H11 H12 := fun b o e => k12 b o (ne_of_none e nc3) (by rw [upd_ne (ne_of_none e nc3), upd_ne (ne_of_none e ndx3)]; exact e)
  obtain ⟨dy3, hcc3⟩ := hc3
  refine ⟨c3, _, dy3, _, _, rfl, hcc3, cl, na_Column_number T, colFs_number, by show 2 ≤ sizeLine; decide, fun l7 n7 => ⟨by show 2 ≤ sizeLine; decide, fun l8 n8 => ?_⟩⟩
  clear k12 ndc3 ndx3 nc3
  have sC := same_new (o := .lst [.non, .int 0]) n8
  refine ⟨⟨l7, l8, _, _, rfl, rfl, sC _ _ upd_same, upd_same, dflats fun x hx => ?_⟩, fun H13 e13 => ⟨_, rfl, iteF (nxt ?_)⟩⟩
  · simp only [List.mem_cons, List.not_mem_nil, or_false] at hx
    rcases hx with rfl | rfl
    · exact ⟨_, rfl⟩
    · exact ⟨_, rfl⟩
  have s713 : Same H7 H13 := s710.trans ((s11.trans s12).trans (((same_new n7).trans sC).trans e13))
  have hc13 := s713 _ _ hc7
  clear sC n7 n8 hcc2 hcc3 s11 s12 e13
  dsimp only
  -- its values are a list anew
  refine ⟨_, rfl, c, dxc, _, rfl, hc13, colFs_allv, c, nm, top, st, gv, rfl, ⟨dxc, hc13⟩, by omega, by omega, fun l9 H14 nl9 s14 hl9 => ?_⟩
  refine ⟨.inl ⟨rfl, _, sqL_of hl9⟩, l9, _, _, rfl, rfl, hl9, ?_, ?_⟩
  · unfold valsTo
    rw [List.length_cons, rgV_length, hz]
    omega
  have s15 : Same H13 (upd H14 l9 (.lst (valsTo top ++ [.int 1]))) := same_mut s14 nl9
  generalize upd H14 l9 (.lst (valsTo top ++ [.int 1])) = H15 at s15 ⊢
  have hc15 := s15 _ _ hc13
  have s715 := s713.trans s15
  clear hl9 s14 nl9 s713 s15
  dsimp only
  -- what is in it
  refine pl_tst2 ?_
  have in0 : isIn top (.int 0) = true := by
    show (decide ((0 : Int) ≤ 0) && decide ((0 : Int) ≤ top)) = true
    rw [decide_eq_true (Int.le_refl 0), decide_eq_true (by omega)]
    rfl
  have inT : isIn top (.int top) = true := by
    show (decide ((0 : Int) ≤ top) && decide (top ≤ top)) = true
    rw [decide_eq_true (by omega), decide_eq_true (Int.le_refl top)]
    rfl
  have inM : isIn top (.int (-1)) = false := by
    show (decide ((0 : Int) ≤ -1) && decide ((-1 : Int) ≤ top)) = false
    rw [decide_eq_false (by omega)]
    rfl
  have inP : isIn top (.int (top + 1)) = false := by
    show (decide ((0 : Int) ≤ top + 1) && decide (top + 1 ≤ top)) = false
    rw [decide_eq_false (show ¬ top + 1 ≤ top by omega), Bool.and_false]
  refine tlc_L (K := K) (xs := [.non, .int 0, .int top]) (fun v => !isIn top v) id (fun R hR => ⟨_, rfl, by show 3 ≤ sizeLine; decide, fun l nl => hR l _ (same_new nl) (sqL_of upd_same)⟩) (by show 3 ≤ 100000; decide) (fun _ => rfl) ?_ (fun x hx _ H' s' R hR => ⟨_, rfl, hR H' (Same.refl _)⟩) ?_
  · intro x hx H' s' R hR
    have hty : ∃ t, TyX K H' x (.type t) := by
      simp only [List.mem_cons, List.not_mem_nil, or_false] at hx
      rcases hx with rfl | rfl | rfl
      · exact ⟨_, .base .non⟩
      · exact ⟨_, .base (.int _)⟩
      · exact ⟨_, .base (.int _)⟩
    obtain ⟨t, ty⟩ := hty
    exact ⟨_, rfl, _, rfl, c, dxc, _, rfl, s' _ _ hc15, c, nm, top, st, gv, x, t, rfl, ⟨dxc, s' _ _ hc15⟩, ty, _, rfl, _, rfl, hR H' (Same.refl _)⟩
  intro D1 H16 nD1 s16 hD1
  have eD1 : (List.filter (fun v => !isIn top v) [V.non, .int 0, .int top]).map id = [] := by
    rw [List.filter_cons, if_neg (by show ¬ (!true) = true; decide), List.filter_cons, if_neg (by rw [in0]; decide), List.filter_cons, if_neg (by rw [inT]; decide)]
    rfl
  rw [eD1] at hD1
  refine ⟨by show 0 ≤ sizeLine; decide, fun l10 n10 => ⟨⟨D1, l10, [], [], rfl, rfl, same_new n10 _ _ hD1, upd_same, Prs.nil⟩, fun H17 e17 => ⟨_, rfl, iteF ?_⟩⟩⟩
  have s1517 : Same H15 H17 := s16.trans ((same_new n10).trans e17)
  have hc17 := s1517 _ _ hc15
  have s717 := s715.trans s1517
  clear n10 hD1 eD1 s16 nD1 s1517
  refine pl_tst2 ?_
  refine ⟨1, rfl, _, rfl, _, _, rfl, rfl, by show 1 ≤ sizeLine; decide, fun tt ntt => ⟨by show 5 ≤ sizeLine; decide, fun l11 n11 => ?_⟩⟩
  have sD := (same_new (o := .tup [.int 0]) ntt).trans (same_new (o := .lst [.int (-1), .int (top + 1), .bl true, .str "0", .ref tt]) n11)
  have htt : upd (upd H17 tt (.tup [.int 0])) l11 (.lst [.int (-1), .int (top + 1), .bl true, .str "0", .ref tt]) tt = some (.tup [.int 0]) := same_new n11 _ _ upd_same
  have hl11 : upd (upd H17 tt (.tup [.int 0])) l11 (.lst [.int (-1), .int (top + 1), .bl true, .str "0", .ref tt]) l11 = some (.lst [.int (-1), .int (top + 1), .bl true, .str "0", .ref tt]) := upd_same
  generalize upd (upd H17 tt (.tup [.int 0])) l11 (.lst [.int (-1), .int (top + 1), .bl true, .str "0", .ref tt]) = H18 at sD htt hl11 ⊢
  have hc18 := sD _ _ hc17
  refine ⟨l11, rfl, ⟨_, sqL_of hl11⟩, fun D2 nD2 => ?_⟩
  refine lc_list (xs := [.int (-1), .int (top + 1), .bl true, .str "0", .ref tt]) (fun j H' => Same H18 H' ∧ H' D2 = some (.lst [])) ⟨same_new nD2, upd_same⟩ (fun j H' _ q => sqL_of (q.1 _ _ hl11)) ?_ ?_
  · rintro j x H' hx ⟨s', hD⟩
    have hty : (∃ t, TyX K H' x (.type t)) ∧ isIn top x = false := by
      have hm := List.mem_of_getElem? hx
      simp only [List.mem_cons, List.not_mem_nil, or_false] at hm
      rcases hm with rfl | rfl | rfl | rfl | rfl
      · exact ⟨⟨_, .base (.int _)⟩, inM⟩
      · exact ⟨⟨_, .base (.int _)⟩, inP⟩
      · exact ⟨⟨_, .base (.bl _)⟩, rfl⟩
      · exact ⟨⟨_, .base (.str _)⟩, rfl⟩
      · exact ⟨⟨_, sqT_tupL (sqT_of (s' _ _ htt))⟩, rfl⟩
    obtain ⟨⟨t, ty⟩, fls⟩ := hty
    refine ⟨rfl, _, rfl, _, rfl, c, dxc, _, rfl, s' _ _ hc18, c, nm, top, st, gv, x, t, rfl, ⟨dxc, s' _ _ hc18⟩, ty, _, rfl, _, rfl, ?_⟩
    rw [fls]
    exact iteF ⟨s', hD⟩
  rintro H19 ⟨s19, hD2⟩
  refine ⟨by show 0 ≤ sizeLine; decide, fun l12 n12 => ⟨⟨D2, l12, [], [], rfl, rfl, same_new n12 _ _ hD2, upd_same, Prs.nil⟩, fun H20 e20 => ⟨_, rfl, iteF (nxt ?_)⟩⟩⟩
  have s720 : Same H7 H20 := s717.trans (sD.trans (s19.trans ((same_new n12).trans e20)))
  have s020 : Same H0 H20 := s6.trans (s67.trans s720)
  have hc20 := s720 _ _ hc7
  clear n12 hD2 s19 nD2 hl11 htt sD ntt n11 s717 hc17 hc18 s715 hc15 hc13 hc10 s710 e20 e7 sA n1 n2
  dsimp only
  -- one part changed
  have hm : ∀ {z : Int}, 0 ≤ z → z ≤ top → isIn top (.int z) = true := fun {z} h0 h1 => by
    show (decide ((0 : Int) ≤ z) && decide (z ≤ top)) = true
    rw [decide_eq_true h0, decide_eq_true h1]
    rfl
  have colL : ∀ {H' : Hp}, Same H20 H' → ColAt K H' c nm top gv st := fun {H'} s => ⟨dxc, s _ _ hc20⟩
  have changedT : (colFs nm top gv st).lookup ("changed" : Str) = none := colFs_changed
  -- what a turn does: the parts as they are told, the outcome of ==
  have turn : ∀ (H' : Hp) (t : Addr) (pt : Str) (v : V) (n' : Str) (g' k' : Int) (d' : V) (b : Bool) (σ : L2.St) (Qn : L2.St → Hp → Prop) (Qr : VK), True := fun _ _ _ _ _ _ _ _ _ _ _ _ => trivial
  refine ⟨by show 2 ≤ sizeLine; decide, fun t1 m1 => ⟨by show 2 ≤ sizeLine; decide, fun t2 m2 => ⟨by show 2 ≤ sizeLine; decide, fun t3 m3 => ⟨by show 2 ≤ sizeLine; decide, fun t4 m4 => ⟨by show 2 ≤ sizeLine; decide, fun t5 m5 => ⟨by show 5 ≤ sizeLine; decide, fun l13 n13 => ?_⟩⟩⟩⟩⟩⟩
  obtain ⟨H21, s21, hl13, p1, p2, p3, p4, p5, e21⟩ : ∃ Hz, Same H20 Hz ∧ Hz l13 = some (.lst [.ref t1, .ref t2, .ref t3, .ref t4, .ref t5]) ∧ Hz t1 = some (.tup [.str "name", .str "y"]) ∧ Hz t2 = some (.tup [.str "greatest", .int 99]) ∧ Hz t3 = some (.tup [.str "default", .int 0]) ∧ Hz t4 = some (.tup [.str "default", .non]) ∧ Hz t5 = some (.tup [.str "number", .int 77]) ∧
      upd (upd (upd (upd (upd (upd H20 t1 (.tup [.str "name", .str "y"])) t2 (.tup [.str "greatest", .int 99])) t3 (.tup [.str "default", .int 0])) t4 (.tup [.str "default", .non])) t5 (.tup [.str "number", .int 77])) l13 (.lst [.ref t1, .ref t2, .ref t3, .ref t4, .ref t5]) = Hz :=
    ⟨_, ((((((same_new m1).trans (same_new m2)).trans (same_new m3)).trans (same_new m4)).trans (same_new m5)).trans (same_new n13)), upd_same,
      same_new n13 _ _ (same_new m5 _ _ (same_new m4 _ _ (same_new m3 _ _ (same_new m2 _ _ upd_same)))), same_new n13 _ _ (same_new m5 _ _ (same_new m4 _ _ (same_new m3 _ _ upd_same))), same_new n13 _ _ (same_new m5 _ _ (same_new m4 _ _ upd_same)), same_new n13 _ _ (same_new m5 _ _ upd_same), same_new n13 _ _ upd_same, rfl⟩
  rw [e21]
  clear e21 m1 m2 m3 m4 m5 n13 turn
  refine ⟨l13, rfl, ⟨_, sqL_of hl13⟩, ?_⟩
  refine for_list (xs := [.ref t1, .ref t2, .ref t3, .ref t4, .ref t5]) (fun j σ H' => Same H21 H' ∧ ∃ x8 x9 x10 x11 x12 x13 x14 x15 x16 : Option V, σ = [some (.ref a), some (.int kI), some (.ref p), some (.str nm), some (.int top), some gv, some (.int st), some (.ref c), x8, x9, x10, x11, x12, x13, x14, x15, x16]) ⟨Same.refl _, _, _, _, _, _, _, _, _, _, rfl⟩ (fun j σ H' _ q => sqL_of (q.1 _ _ hl13)) ?_ ?_
  · rintro j x σ H' hx ⟨s', x8, x9, x10, x11, x12, x13, x14, x15, x16, rfl⟩
    have hsz : (4 : Nat) < sizeLine := by rw [hz]; decide
    have hx := List.mem_of_getElem? hx
    have hcs : ∃ (t : Addr) (pt : Str) (v d' : V) (n0 : Str) (g0 k0 : Int) (old : V), x = .ref t ∧ H' t = some (.tup [.str pt, v]) ∧ Four pt v (.str nm) (.int top) gv (.int st) (.str n0) (.int g0) d' (.int k0) ∧ isNm (.str n0) = true ∧ isGr (.int g0) = true ∧ isIn g0 d' = true ∧ 0 ≤ k0 ∧
        valV ([(Sum.inr "name", .str nm), (Sum.inr "greatest", .int top), (Sum.inr "default", gv), (Sum.inr "number", .int st)] : List (Key × V)) (Sum.inr pt) = some old ∧ scal old v = true ∧ colEq ⟨nm, top, gv, st⟩ ⟨n0, g0, d', k0⟩ = decide (old = v) := by
      simp only [List.mem_cons, List.not_mem_nil, or_false] at hx
      rcases hx with rfl | rfl | rfl | rfl | rfl
      · exact ⟨t1, "name", .str "y", gv, "y", top, st, .str nm, rfl, s' _ _ p1, ⟨.inl rfl, by rw [if_pos rfl]⟩, by decide +kernel, hgr, hd, st0, valV_pos rfl, rfl, by simp [colEq]⟩
      · refine ⟨t2, "greatest", .int 99, gv, nm, 99, st, .int top, rfl, s' _ _ p2, ⟨.inr (.inl rfl), by rw [if_neg (by decide +kernel), if_pos rfl]⟩, hnm, by decide +kernel, ?_, st0, ?_, rfl, by simp [colEq]⟩
        · cases gv with
          | non => rfl
          | int z =>
            obtain ⟨z0, z1⟩ := Bool.and_eq_true_iff.mp (show (decide ((0 : Int) ≤ z) && decide (z ≤ top)) = true from hd)
            have z0 := of_decide_eq_true z0
            have z1 := of_decide_eq_true z1
            show (decide ((0 : Int) ≤ z) && decide (z ≤ 99)) = true
            rw [decide_eq_true z0, decide_eq_true (by omega)]
            rfl
          | _ => cases hd
        · rw [valV_neg (kne (by decide +kernel)), valV_pos rfl]
      · refine ⟨t3, "default", .int 0, .int 0, nm, top, st, gv, rfl, s' _ _ p3, ⟨.inr (.inr (.inl rfl)), by rw [if_neg (by decide +kernel), if_neg (by decide +kernel), if_pos rfl]⟩, hnm, hgr, in0, st0, ?_, ?_, by simp [colEq]⟩
        · rw [valV_neg (kne (by decide +kernel)), valV_neg (kne (by decide +kernel)), valV_pos rfl]
        · cases gv with
          | non => rfl
          | int z => rfl
          | _ => cases hd
      · refine ⟨t4, "default", .non, .non, nm, top, st, gv, rfl, s' _ _ p4, ⟨.inr (.inr (.inl rfl)), by rw [if_neg (by decide +kernel), if_neg (by decide +kernel), if_pos rfl]⟩, hnm, hgr, rfl, st0, ?_, ?_, by simp [colEq]⟩
        · rw [valV_neg (kne (by decide +kernel)), valV_neg (kne (by decide +kernel)), valV_pos rfl]
        · cases gv with
          | non => rfl
          | int z => rfl
          | _ => cases hd
      · refine ⟨t5, "number", .int 77, gv, nm, top, 77, .int st, rfl, s' _ _ p5, ⟨.inr (.inr (.inr rfl)), by rw [if_neg (by decide +kernel), if_neg (by decide +kernel), if_neg (by decide +kernel)]⟩, hnm, hgr, hd, by decide, ?_, rfl, by simp [colEq]⟩
        rw [valV_neg (kne (by decide +kernel)), valV_neg (kne (by decide +kernel)), valV_neg (kne (by decide +kernel)), valV_pos rfl]
    obtain ⟨t, pt, v, d', n0, g0, k0, old, rfl, ht, f4, hn0, hg0, hd0, hk0', hold, hsc, hce⟩ := hcs
    have iv : isVal d' = true := by
      cases d' with
      | non => rfl
      | int z => exact (Bool.and_eq_true_iff.mp (show (decide ((0 : Int) ≤ z) && decide (z ≤ g0)) = true from hd0)).1
      | _ => cases hd0
    have ivg : isVal gv = true := by
      cases gv with
      | non => rfl
      | int z => exact (Bool.and_eq_true_iff.mp (show (decide ((0 : Int) ≤ z) && decide (z ≤ top)) = true from hd)).1
      | _ => cases hd
    refine ⟨t, _, rfl, sqT_of ht, rfl, _, _, rfl, _, _, rfl, rfl, ?_⟩
    dsimp only
    refine q_asgX fun P nP => ?_
    refine ⟨_, rfl, _, rfl, _, rfl, _, rfl, upd_same, [(Sum.inr "name", .str nm), (Sum.inr "greatest", .int top), (Sum.inr "default", gv), (Sum.inr "number", .int st)], rfl, (by show 4 ≤ 15; decide), ?_⟩
    rw [upd_upd, merge4]
    have sP := same_new (o := .dK [(Sum.inr "name", .str nm), (Sum.inr "greatest", .int top), (Sum.inr "default", gv), (Sum.inr "number", .int st)]) nP
    have hP : upd H' P (.dK [(Sum.inr "name", .str nm), (Sum.inr "greatest", .int top), (Sum.inr "default", gv), (Sum.inr "number", .int st)]) P = some (.dK [(Sum.inr "name", .str nm), (Sum.inr "greatest", .int top), (Sum.inr "default", gv), (Sum.inr "number", .int st)]) := upd_same
    generalize upd H' P (.dK [(Sum.inr "name", .str nm), (Sum.inr "greatest", .int top), (Sum.inr "default", gv), (Sum.inr "number", .int st)]) = H30 at sP hP ⊢
    have gO : DGet H30 P (.str pt) (some old) := by
      rw [← hold]
      exact DGet.k (k := Sum.inr pt) hP
    refine q_asgX ⟨_, rfl, _, rfl, P, old, rfl, gO, _, rfl, hsc, ?_⟩
    refine ⟨_, rfl, _, rfl, _, rfl, P, _, rfl, DPut.k (k := Sum.inr pt) hP hsz, ?_⟩
    have sQ : Same H' (upd H30 P (.dK (put pt v (.str nm) (.int top) gv (.int st)))) := same_mut sP nP
    have hQ : upd H30 P (.dK (put pt v (.str nm) (.int top) gv (.int st))) P = some (.dK (put pt v (.str nm) (.int top) gv (.int st))) := upd_same
    try dsimp only
    obtain ⟨q1, q2, q3, q4⟩ := put_get f4
    have g1 : DGet (upd H30 P (.dK (put pt v (.str nm) (.int top) gv (.int st)))) P (.str "name") (some (.str n0)) := by
      rw [← q1]
      exact DGet.k (k := Sum.inr "name") hQ
    have g2 : DGet (upd H30 P (.dK (put pt v (.str nm) (.int top) gv (.int st)))) P (.str "greatest") (some (.int g0)) := by
      rw [← q2]
      exact DGet.k (k := Sum.inr "greatest") hQ
    have g3 : DGet (upd H30 P (.dK (put pt v (.str nm) (.int top) gv (.int st)))) P (.str "default") (some d') := by
      rw [← q3]
      exact DGet.k (k := Sum.inr "default") hQ
    have g4 : DGet (upd H30 P (.dK (put pt v (.str nm) (.int top) gv (.int st)))) P (.str "number") (some (.int k0)) := by
      rw [← q4]
      exact DGet.k (k := Sum.inr "number") hQ
    refine q_asgX ?_
    refine ⟨_, rfl, P, _, rfl, g1, _, rfl, P, _, rfl, g2, _, rfl, P, _, rfl, g3, _, rfl, P, _, rfl, g4, rfl, rfl, fun y dy ny ndy ndc => ?_⟩
    refine ⟨y, dy, n0, g0, k0, d', rfl, upd_same, hn0, hg0, hd0, hk0', fun H32 hy k32 => ⟨rfl, ?_⟩⟩
    have s32 : Same (upd H30 P (.dK (put pt v (.str nm) (.int top) gv (.int st)))) H32 := fun b o e => k32 b o (ne_of_none e ny) (by rw [upd_ne (ne_of_none e ny), upd_ne (ne_of_none e ndy)]; exact e)
    dsimp only
    have sT := (s21.trans s').trans (sQ.trans s32)
    have hcT := sT _ _ hc20
    refine ⟨_, rfl, c, dxc, _, rfl, hcT, colFs_changed, _, rfl, _, rfl, c, pt, nm, n0, top, st, g0, k0, gv, d', v, rfl, ⟨dxc, hcT⟩, f4, hn0, hg0, hd0, hk0', fun b H33 nb s33 hb => ?_⟩
    obtain ⟨dyy, hyy⟩ := id hy
    obtain ⟨dbb, hbb⟩ := id hb
    refine ⟨_, rfl, b, _, _, y, _, _, rfl, rfl, hbb, s33 _ _ hyy, b, y, ⟨n0, g0, d', k0⟩, ⟨n0, g0, d', k0⟩, rfl, hb, ⟨dyy, s33 _ _ hyy⟩, iv, iv, ?_⟩
    rw [colEq_self]
    refine ⟨_, rfl, _, rfl, iteF ?_⟩
    refine ⟨_, rfl, _, rfl, c, _, _, y, _, _, rfl, rfl, s33 _ _ hcT, s33 _ _ hyy, c, y, ⟨nm, top, gv, st⟩, ⟨n0, g0, d', k0⟩, rfl, ⟨dxc, s33 _ _ hcT⟩, ⟨dyy, s33 _ _ hyy⟩, ivg, iv, ?_⟩
    rw [hce]
    exact ⟨_, rfl, _, rfl, rfl, _, rfl, iteNS rfl (nxt ⟨s'.trans (sQ.trans (s32.trans s33)), _, _, _, _, _, _, _, _, _, rfl⟩)⟩
  rintro σ H22 ⟨s22, x8, x9, x10, x11, x12, x13, x14, x15, x16, rfl⟩
  have s2022 := s21.trans s22
  have hc22 := s2022 _ _ hc20
  have s022 := s020.trans s2022
  clear p1 p2 p3 p4 p5 hl13
  dsimp only
  -- the odd values
  refine q_asgX ?_
  refine ⟨by show 6 ≤ sizeLine; decide, fun o1 m1 => ⟨by show 5 ≤ sizeLine; decide, fun o2 m2 => ⟨1, rfl, _, rfl, _, _, rfl, rfl, by show 1 ≤ sizeLine; decide, fun tt mt => ⟨by show 5 ≤ sizeLine; decide, fun o3 m3 => ⟨1, rfl, by show 4 ≤ sizeLine; decide, fun o4 m4 => ⟨by show 4 ≤ sizeLine; decide, fun o5 m5 => ?_⟩⟩⟩⟩⟩⟩
  obtain ⟨H23, s23, ho1, ho2, htt, ho3, ho4, ho5, e23⟩ : ∃ Hz, Same H22 Hz ∧ Hz o1 = some (.lst [.non, .int 5, .str "", .str "A", .str "abcdefghi", .str "a1"]) ∧ Hz o2 = some (.lst [.non, .int 0, .int 100, .bl true, .str "1"]) ∧ Hz tt = some (.tup [.int 1]) ∧ Hz o3 = some (.lst [.int (-1), .int (top + 1), .bl true, .str "0", .ref tt]) ∧ Hz o4 = some (.lst [.non, .int (-1), .bl true, .str "1"]) ∧ Hz o5 = some (.lst [.ref o1, .ref o2, .ref o3, .ref o4]) ∧
      upd (upd (upd (upd (upd (upd H22 o1 (.lst [.non, .int 5, .str "", .str "A", .str "abcdefghi", .str "a1"])) o2 (.lst [.non, .int 0, .int 100, .bl true, .str "1"])) tt (.tup [.int 1])) o3 (.lst [.int (-1), .int (top + 1), .bl true, .str "0", .ref tt])) o4 (.lst [.non, .int (-1), .bl true, .str "1"])) o5 (.lst [.ref o1, .ref o2, .ref o3, .ref o4]) = Hz :=
    ⟨_, ((((((same_new m1).trans (same_new m2)).trans (same_new mt)).trans (same_new m3)).trans (same_new m4)).trans (same_new m5)),
      same_new m5 _ _ (same_new m4 _ _ (same_new m3 _ _ (same_new mt _ _ (same_new m2 _ _ upd_same)))), same_new m5 _ _ (same_new m4 _ _ (same_new m3 _ _ (same_new mt _ _ upd_same))), same_new m5 _ _ (same_new m4 _ _ (same_new m3 _ _ upd_same)), same_new m5 _ _ (same_new m4 _ _ upd_same), same_new m5 _ _ upd_same, upd_same, rfl⟩
  rw [e23]
  clear e23 m1 m2 mt m3 m4 m5
  have hc23 := s23 _ _ hc22
  have tgA : ∀ H' : Hp, TyAll K H' gv := fun H' => by
    cases gv with
    | non => exact tyAll_non
    | int z => exact tyAll_int z
    | _ => cases hd
  have hnl2 : nm.length ≤ 1000 := by omega
  try dsimp only
  refine ⟨_, rfl, by decide, by decide, ?_⟩
  refine for_range (lo := 0) (n := ((4 : Int)).toNat) (fun j σ H' => Same H23 H' ∧ ∃ x8 x9 x10 x11 x12 x13 x15 x16 : Option V, σ = [some (.ref a), some (.int kI), some (.ref p), some (.str nm), some (.int top), some gv, some (.int st), some (.ref c), x8, x9, x10, x11, x12, x13, some (.ref o5), x15, x16]) ⟨Same.refl _, _, _, _, _, _, _, _, _, rfl⟩ ?_ ?_
  · rintro j σ H24 hj ⟨s24, x8, x9, x10, x11, x12, x13, x15, x16, rfl⟩
    have hj4 : j < 4 := hj
    rw [show (0 : Int) + (j : Int) = (j : Int) from Int.zero_add _]
    have hl : ∃ (o : Addr) (xs : List V), ([.ref o1, .ref o2, .ref o3, .ref o4] : List V)[j]? = some (.ref o) ∧ H23 o = some (.lst xs) ∧ ∀ x ∈ xs, ∀ H', Same H23 H' → GoodO K H' nm top gv st j x := by
      match j, hj4 with
      | 0, _ =>
        refine ⟨o1, _, rfl, ho1, fun x hx H' s' => ?_⟩
        simp only [List.mem_cons, List.not_mem_nil, or_false] at hx
        rcases hx with rfl | rfl | rfl | rfl | rfl | rfl
        · exact good0 (by decide +kernel) tyAll_non (fun z e => by cases e)
        · exact good0 (by decide +kernel) (tyAll_int _) (fun z e => by cases e)
        · exact good0 (by decide +kernel) (tyAll_str _) (fun z e => by cases e; decide +kernel)
        · exact good0 (by decide +kernel) (tyAll_str _) (fun z e => by cases e; decide +kernel)
        · exact good0 (by decide +kernel) (tyAll_str _) (fun z e => by cases e; decide +kernel)
        · exact good0 (by decide +kernel) (tyAll_str _) (fun z e => by cases e; decide +kernel)
      | 1, _ =>
        refine ⟨o2, _, rfl, ho2, fun x hx H' s' => ?_⟩
        simp only [List.mem_cons, List.not_mem_nil, or_false] at hx
        rcases hx with rfl | rfl | rfl | rfl | rfl
        · exact good1 hnm hnl2 (by decide +kernel) tyAll_non (fun z e => by cases e)
        · exact good1 hnm hnl2 (by decide +kernel) (tyAll_int _) (fun z e => by cases e)
        · exact good1 hnm hnl2 (by decide +kernel) (tyAll_int _) (fun z e => by cases e)
        · exact good1 hnm hnl2 (by decide +kernel) (tyAll_bl _) (fun z e => by cases e)
        · exact good1 hnm hnl2 (by decide +kernel) (tyAll_str _) (fun z e => by cases e; decide +kernel)
      | 2, _ =>
        refine ⟨o3, _, rfl, ho3, fun x hx H' s' => ?_⟩
        simp only [List.mem_cons, List.not_mem_nil, or_false] at hx
        rcases hx with rfl | rfl | rfl | rfl | rfl
        · exact good2 hnm hnl2 hgr inM (tyAll_int _) (fun z e => by cases e)
        · exact good2 hnm hnl2 hgr inP (tyAll_int _) (fun z e => by cases e)
        · exact good2 hnm hnl2 hgr rfl (tyAll_bl _) (fun z e => by cases e)
        · exact good2 hnm hnl2 hgr rfl (tyAll_str _) (fun z e => by cases e; decide +kernel)
        · exact good2 hnm hnl2 hgr rfl ⟨_, fun H2 s2 => sqT_tupL (sqT_of (s2 _ _ (s' _ _ htt)))⟩ (fun z e => by cases e)
      | 3, _ =>
        refine ⟨o4, _, rfl, ho4, fun x hx H' s' => ?_⟩
        simp only [List.mem_cons, List.not_mem_nil, or_false] at hx
        rcases hx with rfl | rfl | rfl | rfl
        · exact good3 hnm hnl2 hgr hd (tgA _) (fun z e => by cases e) tyAll_non (fun z e => by cases e)
        · exact good3 hnm hnl2 hgr hd (tgA _) (fun z e => by cases e; decide) (tyAll_int _) (fun z e => by cases e)
        · exact good3 hnm hnl2 hgr hd (tgA _) (fun z e => by cases e) (tyAll_bl _) (fun z e => by cases e)
        · exact good3 hnm hnl2 hgr hd (tgA _) (fun z e => by cases e) (tyAll_str _) (fun z e => by cases e; decide +kernel)
    obtain ⟨o, xs, hjo, ho, good⟩ := hl
    refine ⟨_, rfl, _, rfl, o5, _, (j : Nat), _, rfl, rfl, sqL_of (s24 _ _ ho5), at_of (j := j) rfl hjo, o, rfl, ⟨_, sqL_of (s24 _ _ ho)⟩, ?_⟩
    refine for_list (xs := xs) (fun i σ H' => Same H24 H' ∧ ∃ x8 x9 x10 x11 x12 x13 x16 : Option V, σ = [some (.ref a), some (.int kI), some (.ref p), some (.str nm), some (.int top), some gv, some (.int st), some (.ref c), x8, x9, x10, x11, x12, x13, some (.ref o5), some (.int (j : Nat)), x16]) ⟨Same.refl _, _, _, _, _, _, _, _, rfl⟩ (fun i σ H' _ q => sqL_of (q.1 _ _ (s24 _ _ ho))) ?_ ?_
    · rintro i x σ H25 hx ⟨s25, x8, x9, x10, x11, x12, x13, x16, rfl⟩
      have s2325 := s24.trans s25
      obtain ⟨n, g, d, k, q, n', g', d', k', eS, eP, eB, eW, eO, eF, eB2, y1, y2, y3, y4, y5, z1, z2⟩ := good x (List.mem_of_getElem? hx) H25 s2325
      have hc25 := s2325 _ _ hc23
      try dsimp only
      refine q_asgX ?_
      refine ⟨_, rfl, _, rfl, _, rfl, by show 3 ≤ sizeLine; decide, fun b1 r1 => ?_⟩
      have u1 : Same H25 (upd H25 b1 (.lst [.str nm, .int top, gv])) := same_new r1
      have hb1 : upd H25 b1 (.lst [.str nm, .int top, gv]) b1 = some (.lst [.str nm, .int top, gv]) := upd_same
      generalize upd H25 b1 (.lst [.str nm, .int top, gv]) = G1 at u1 hb1 ⊢
      refine ⟨_, rfl, _, rfl, b1, _, rfl, sqL_of hb1, fun b2 r2 => ?_⟩
      rw [cutV_to (by show j ≤ 3; omega)]
      have u2 : Same G1 (upd G1 b2 (.lst (List.take j [.str nm, .int top, gv]))) := same_new r2
      have hb2 : upd G1 b2 (.lst (List.take j [.str nm, .int top, gv])) b2 = some (.lst (List.take j [.str nm, .int top, gv])) := upd_same
      generalize upd G1 b2 (.lst (List.take j [.str nm, .int top, gv])) = G2 at u2 hb2 ⊢
      refine ⟨_, rfl, by show 1 ≤ sizeLine; decide, fun b3 r3 => ?_⟩
      have u3 : Same G2 (upd G2 b3 (.lst [x])) := same_new r3
      have hb3 : upd G2 b3 (.lst [x]) b3 = some (.lst [x]) := upd_same
      generalize upd G2 b3 (.lst [x]) = G3 at u3 hb3 ⊢
      refine ⟨b2, b3, _, _, rfl, rfl, u3 _ _ hb2, hb3, ?_, fun b4 r4 => ?_⟩
      · rw [List.length_take, hz]
        show min j 3 + 1 ≤ _
        omega
      have u4 : Same G3 (upd G3 b4 (.lst (List.take j [.str nm, .int top, gv] ++ [x]))) := same_new r4
      have hb4 : upd G3 b4 (.lst (List.take j [.str nm, .int top, gv] ++ [x])) b4 = some (.lst (List.take j [.str nm, .int top, gv] ++ [x])) := upd_same
      generalize upd G3 b4 (.lst (List.take j [.str nm, .int top, gv] ++ [x])) = G4 at u4 hb4 ⊢
      refine ⟨1, rfl, by show 4 ≤ sizeLine; decide, fun b5 r5 => ?_⟩
      have u5 : Same G4 (upd G4 b5 (.lst [.non, .non, .int (-1), .non])) := same_new r5
      have hb5 : upd G4 b5 (.lst [.non, .non, .int (-1), .non]) b5 = some (.lst [.non, .non, .int (-1), .non]) := upd_same
      generalize upd G4 b5 (.lst [.non, .non, .int (-1), .non]) = G5 at u5 hb5 ⊢
      refine ⟨_, rfl, _, _, rfl, rfl, _, rfl, b5, _, rfl, sqL_of hb5, fun b6 r6 => ?_⟩
      rw [show ((j : Nat) : Int) + 1 = ((j + 1 : Nat) : Int) by omega, cutV_from (by show j + 1 ≤ 4; omega)]
      have u6 : Same G5 (upd G5 b6 (.lst (List.drop (j + 1) [.non, .non, .int (-1), .non]))) := same_new r6
      have hb6 : upd G5 b6 (.lst (List.drop (j + 1) [.non, .non, .int (-1), .non])) b6 = some (.lst (List.drop (j + 1) [.non, .non, .int (-1), .non])) := upd_same
      generalize upd G5 b6 (.lst (List.drop (j + 1) [.non, .non, .int (-1), .non])) = G6 at u6 hb6 ⊢
      refine ⟨b4, b6, _, _, rfl, rfl, u6 _ _ (u5 _ _ hb4), hb6, ?_, fun b7 r7 => ?_⟩
      · rw [List.length_append, List.length_take, List.length_drop, hz]
        show min j 3 + 1 + (4 - (j + 1)) ≤ _
        omega
      have u7 : Same G6 (upd G6 b7 (.lst ((List.take j [.str nm, .int top, gv] ++ [x]) ++ List.drop (j + 1) [.non, .non, .int (-1), .non]))) := same_new r7
      have hb7 : upd G6 b7 (.lst ((List.take j [.str nm, .int top, gv] ++ [x]) ++ List.drop (j + 1) [.non, .non, .int (-1), .non])) b7 = some (.lst [n, g, d, k]) := by rw [upd_same, eS]
      generalize upd G6 b7 (.lst ((List.take j [.str nm, .int top, gv] ++ [x]) ++ List.drop (j + 1) [.non, .non, .int (-1), .non])) = G7 at u7 hb7 ⊢
      have uu : Same H25 G7 := (((((u1.trans u2).trans u3).trans u4).trans u5).trans u6).trans u7
      clear u1 u2 u3 u4 u5 u6 u7 hb1 hb2 hb3 hb4 hb5 hb6 r1 r2 r3 r4 r5 r6 r7
      try dsimp only
      refine ⟨_, rfl, b7, n, g, d, k, rfl, sqL_of hb7, y1.keep uu, y2.keep uu, y3.keep uu, y4.keep uu, z1, fun H27 s27 => ?_⟩
      have eBV : badV n g d k = .str q := by unfold badV; rw [eB]
      rw [eBV]
      refine ⟨by show 4 ≤ sizeLine; decide, fun b8 r8 => ⟨_, rfl, b8, _, (j : Nat), _, rfl, rfl, sqL_of upd_same, at_of (j := j) rfl eP, rfl, _, rfl, iteNS rfl (nxt ?_)⟩⟩
      have u8 : Same H27 (upd H27 b8 (.lst [.str "name", .str "greatest", .str "default", .str "number"])) := same_new r8
      generalize upd H27 b8 (.lst [.str "name", .str "greatest", .str "default", .str "number"]) = H28 at u8 ⊢
      try dsimp only
      refine ⟨_, rfl, by show 4 ≤ sizeLine; decide, fun b9 r9 => ⟨_, rfl, b9, _, (j : Nat), _, rfl, rfl, sqL_of upd_same, at_of (j := j) rfl eP, _, rfl, ?_⟩⟩
      have u9 : Same H28 (upd H28 b9 (.lst [.str "name", .str "greatest", .str "default", .str "number"])) := same_new r9
      generalize upd H28 b9 (.lst [.str "name", .str "greatest", .str "default", .str "number"]) = H29 at u9 ⊢
      have uv : Same H25 H29 := ((uu.trans s27).trans u8).trans u9
      refine ⟨c, .str q, x, nm, top, st, gv, rfl, ⟨dxc, uv _ _ hc25⟩, hnl2, tyAll_str q, y5.keep uv, tgA _, z2, fun hw => ?_, fun p0 hp0 hw => ?_⟩
      · rw [eW] at hw
        cases hw
      · cases hp0
        refine ⟨n', g', d', k', q, eF, eB2, eO, fun H30 s30 => ?_⟩
        refine ⟨by show 4 ≤ sizeLine; decide, fun b10 r10 => ⟨_, rfl, b10, _, (j : Nat), _, rfl, rfl, sqL_of upd_same, at_of (j := j) rfl eP, .inl ⟨_, rfl, eO, rfl, _, rfl, iteNS rfl (nxt ?_)⟩⟩⟩
        exact ⟨s25.trans (uv.trans (s30.trans (same_new r10))), _, _, _, _, _, _, _, rfl⟩
    · rintro σ H25 ⟨s25, x8, x9, x10, x11, x12, x13, x16, rfl⟩
      exact ⟨s24.trans s25, _, _, _, _, _, _, _, _, rfl⟩
  rintro σ H24 ⟨s24, x8, x9, x10, x11, x12, x13, x15, x16, rfl⟩
  have hc24 := s24 _ _ hc23
  have s024 := s022.trans (s23.trans s24)
  clear ho1 ho2 htt ho3 ho4 ho5
  try dsimp only
  -- a part that is none
  refine ⟨by show 1 ≤ sizeLine; decide, fun q1 m1 => ⟨by show 5 ≤ sizeLine; decide, fun q2 m2 => ?_⟩⟩
  have v1 := (same_new (o := .lst [.str "name"]) m1).trans (same_new (o := .lst [.non, .int 5, .str "Name", .str "values", .ref q1]) m2)
  have hq1 : upd (upd H24 q1 (.lst [.str "name"])) q2 (.lst [.non, .int 5, .str "Name", .str "values", .ref q1]) q1 = some (.lst [.str "name"]) := same_new m2 _ _ upd_same
  have hq2 : upd (upd H24 q1 (.lst [.str "name"])) q2 (.lst [.non, .int 5, .str "Name", .str "values", .ref q1]) q2 = some (.lst [.non, .int 5, .str "Name", .str "values", .ref q1]) := upd_same
  generalize upd (upd H24 q1 (.lst [.str "name"])) q2 (.lst [.non, .int 5, .str "Name", .str "values", .ref q1]) = H40 at v1 hq1 hq2 ⊢
  have hc40 := v1 _ _ hc24
  refine ⟨q2, rfl, ⟨_, sqL_of hq2⟩, ?_⟩
  refine for_list (xs := [.non, .int 5, .str "Name", .str "values", .ref q1]) (fun i σ H' => Same H40 H' ∧ ∃ x8 x9 x10 x11 x12 x13 x15 x16 : Option V, σ = [some (.ref a), some (.int kI), some (.ref p), some (.str nm), some (.int top), some gv, some (.int st), some (.ref c), x8, x9, x10, x11, x12, x13, some (.ref o5), x15, x16]) ⟨Same.refl _, _, _, _, _, _, _, _, _, rfl⟩ (fun i σ H' _ q => sqL_of (q.1 _ _ hq2)) ?_ ?_
  · rintro i x σ H41 hx ⟨s41, x8, x9, x10, x11, x12, x13, x15, x16, rfl⟩
    have hx := List.mem_of_getElem? hx
    have fact : wordV x P4 = false ∧ TyAll K H40 x ∧ ∃ z, ∀ H', Same H40 H' → Shows K H' x z := by
      simp only [List.mem_cons, List.not_mem_nil, or_false] at hx
      rcases hx with rfl | rfl | rfl | rfl | rfl
      · exact ⟨rfl, tyAll_non, _, fun _ _ => .inl ⟨by decide +kernel, rfl⟩⟩
      · exact ⟨rfl, tyAll_int _, _, fun _ _ => .inl ⟨by decide +kernel, rfl⟩⟩
      · exact ⟨by decide +kernel, tyAll_str _, _, fun _ _ => .inl ⟨by decide +kernel, rfl⟩⟩
      · exact ⟨by decide +kernel, tyAll_str _, _, fun _ _ => .inl ⟨by decide +kernel, rfl⟩⟩
      · exact ⟨rfl, ⟨_, fun H' s => .base (.lst (s _ _ hq1))⟩, _, fun H' s => .inr ⟨q1, .list [.str "name"], rfl, .lst (sqL_of (s _ _ hq1)) (.cons (.str _) .nil), by decide +kernel, by decide +kernel, by decide +kernel, by decide +kernel, rfl⟩⟩
    obtain ⟨hw, ty, z, sh⟩ := fact
    refine ⟨_, rfl, _, rfl, c, x, .int 1, nm, top, st, gv, rfl, ⟨dxc, s41 _ _ hc40⟩, hnl2, ty.keep s41, tyAll_int 1, tgA _, (fun z e => by cases e), fun _ => ⟨z, fun H2 s2 => sh H2 (s41.trans s2), fun H2 s2 => ?_⟩, fun p0 hp0 hw2 => ?_⟩
    · rcases sh H2 (s41.trans s2) with ⟨ok, ez⟩ | ⟨b, dd, ex, r1, r2, r3, r4, r5, ez⟩
      · rw [ez]
        exact ⟨_, rfl, .inl ⟨x, rfl, ok, rfl, _, rfl, iteNS rfl (nxt ⟨s41.trans s2, _, _, _, _, _, _, _, _, rfl⟩)⟩⟩
      · rw [ez]
        subst ex
        exact ⟨_, rfl, .inr ⟨b, dd, rfl, r1, r2, r3, r4, r5, rfl, _, rfl, iteNS rfl (nxt ⟨s41.trans s2, _, _, _, _, _, _, _, _, rfl⟩)⟩⟩
    · rw [hw] at hw2
      cases hw2
  rintro σ H41 ⟨s41, x8, x9, x10, x11, x12, x13, x15, x16, rfl⟩
  have hc41 := s41 _ _ hc40
  have s041 := s024.trans (v1.trans s41)
  try dsimp only
  refine ⟨_, rfl, _, _, rfl, rfl, _, rfl, ?_⟩
  by_cases h1 : (1 : Int) < top
  · refine iteDT h1 ?_
    refine ⟨_, rfl, c, dxc, _, rfl, hc41, colFs_changed, _, rfl, c, "default", nm, nm, top, st, top, st, gv, .int top, .int top, rfl, ⟨dxc, hc41⟩, ⟨.inr (.inr (.inl rfl)), by rw [if_neg (by decide +kernel), if_neg (by decide +kernel), if_pos rfl]⟩, hnm, hgr, inT, st0, fun b Hb nb sb hb => ?_⟩
    refine ⟨_, rfl, _, _, rfl, rfl, b, .str "greatest", .int (top - 1), nm, top, st, .int top, rfl, hb, hnl2, tyAll_str _, tyAll_int _, tyAll_int _, (fun z e => by cases e), fun hw => ?_, fun p0 hp0 hw => ?_⟩
    · exact absurd hw (by decide +kernel)
    · cases hp0
      refine ⟨.str nm, .int (top - 1), .int top, .int st, "default", ?_, bad2 hnm ?_ ?_, by decide +kernel, fun H2 s2 => ?_⟩
      · unfold fourF
        rw [if_neg (by decide +kernel), if_pos rfl]
      · show (decide (1 ≤ top - 1) && decide (top - 1 ≤ 99)) = true
        rw [decide_eq_true (by omega), decide_eq_true (by omega)]
        rfl
      · show (decide ((0 : Int) ≤ top) && decide (top ≤ top - 1)) = false
        rw [decide_eq_false (show ¬ top ≤ top - 1 by omega), Bool.and_false]
      · exact .inl ⟨_, rfl, by decide +kernel, rfl, _, rfl, iteNS rfl (nxt ⟨sH.trans (s041.trans (sb.trans s2)), _, _, _, _, _, _, _, _, _, _, _, _, _, _, _, _, rfl⟩)⟩
  · exact iteD h1 (nxt ⟨sH.trans s041, _, _, _, _, _, _, _, _, _, _, _, _, _, _, _, _, rfl⟩)
end
theorem factsR {w : World} {K : PySem.W.Frag} {h : Heap} {mg : Str → Option Value} {f : Addr} (X : K.In h) (G : h.Ns mainGlobals mg) (hfa : mg ("law" : Str) = some (.ref f)) (c : He.SaysD fal fnl K ∧ exl K = true) :
    LawOkG PySem.Challenge.rw_editionrows_k02_columns w mg CX0 9 63 "_law_script" f K := by
  have T : Tx K mg := ⟨c.1, c.2, h, X, G⟩
  obtain ⟨fd, F⟩ := fd_law T
  have e := hfa.symm.trans (mg_law T)
  cases e
  have b := FunD.bindsA (ps := ["_law_script"]) F fun _ _ _ _ _ _ us hl => match us, hl with | [_], _ => rfl
  exact ⟨fd, sp_law K, fun s v => b s [v] rfl, fun H a ns hl hb _ hS => ⟨a, ns, rfl, hS, hl, hb, fun _ => rfl⟩, fun base _ _ => ok_law T F⟩
end ER
open PySem PySem.W PySem.Calls PyProof.Rows
set_option maxRecDepth 100000 in
set_option maxHeartbeats 8000000 in
theorem PySem.Challenge.cw_editionrows_k02_columns_holds : PySem.Challenge.rw_editionrows_k02_columns.Holds := by
  w_on; o_law
  refine HandSHeadRun.head_any (r := OpenLaw.row PySem.Challenge.rw_editionrows_k02_columns) (q := view (OpenLaw.row PySem.Challenge.rw_editionrows_k02_columns).prog [24]) (H := ER.hkR) (ob := ER.obR) (M := 6000) (loose := ER.looseR) (d := HandSHeadRun.topDef (OpenLaw.row PySem.Challenge.rw_editionrows_k02_columns).prog 24) (kwd := []) ER.obR_eq
    (by kernel_rfl) (fun s => by kernel_rfl) ER.runR (by kernel_rfl) (by kernel_rfl) (by kernel_rfl) (by rfl) (by first | assumption | decide +kernel) (by decide +kernel) ⟨rfl, rfl, rfl, rfl, rfl, by decide +kernel⟩ ?hw ?hc
  case hw => w_witness2
  case hc =>
    refine ER.walk_bitsG (l := PySem.Challenge.rw_editionrows_k02_columns) (n := 63) (k := 9) (x := "_law_script") (CX := L2.CX0) rfl (by decide) (by kernel_rfl) ⟨rfl, by decide, by decide⟩ ?F (fun _ _ _ _ z => z)
    intro w mg fa h Y G hmg0
    obtain ⟨K, KX, c⟩ := Y
    have hmg : mg ("law" : PySem.Str) = some (.ref fa) := by
      have e : (HandSHeadRun.topDef (OpenLaw.row PySem.Challenge.rw_editionrows_k02_columns).prog 24).name = ("law" : PySem.Str) := by kernel_rfl
      rw [← e]
      exact hmg0
    exact ⟨K, KX, ER.factsR (w := w) KX G hmg c⟩

