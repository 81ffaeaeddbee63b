/- Virtual hosts that came in. -/
import Derived.Test.YtadocpoejbnhpaaDoorQH2
namespace Go.Proofs.YtadocpoejbnhpaaDoor
open Kind
set_option linter.all false
theorem Tryd.kStr : Opens str 9 := opens_str Tryd.underlying9 (by kernel_rfl)
theorem Tryd.kBool : Opens bool 4 := opens_bool Tryd.underlying4 (by kernel_rfl)
theorem Tryd.kStrs : Opens (slice str) 39 := opens_slice Tryd.kStr (by decide) Tryd.underlying39 (by kernel_rfl)
set_option maxRecDepth 100000 in
theorem Tryd.kGrant : Opens grantK 177 := opens_struct Tryd.underlying177 (by kernel_rfl) (by exact fields_cons Tryd.kStr rfl (fields_cons Tryd.kBool rfl (fields_last Tryd.kBool rfl)))
theorem Tryd.kGrants : Opens (slice grantK) 152 := opens_slice Tryd.kGrant (by decide) Tryd.underlying152 (by kernel_rfl)
set_option maxRecDepth 100000 in
theorem Tryd.kRule : Opens ruleK 154 := opens_struct Tryd.underlying154 (by kernel_rfl)
  (by exact fields_cons Tryd.kStrs rfl (fields_cons Tryd.kGrants rfl (fields_cons Tryd.kBool rfl (fields_last Tryd.kStr rfl))))
theorem Tryd.kRules : Opens (slice ruleK) 57 := opens_slice Tryd.kRule (by decide) Tryd.underlying57 (by kernel_rfl)
set_option maxRecDepth 100000 in
theorem Tryd.kHost : Opens hostK 59 := opens_struct Tryd.underlying59 (by kernel_rfl)
  (by exact fields_cons Tryd.kStrs rfl (fields_cons Tryd.kStrs rfl (fields_last Tryd.kRules rfl)))
theorem hosts_of_open {H : Type} {enc : TypeId × Value -> H} {W : World} {v : Value} {d : DataW H} {p : List MemPlace} (hv : ∃ a len cap, v = .slice a len cap)
    (h : DataW.Trod enc Tryd.prog W 0 (fun _ => true) true 38 v d p) : ∃ L, hostK.rows (fun k => k < W.heap.size) W v L := rows_of_open Tryd.kHost (by decide) Tryd.underlying38 (by kernel_rfl) hv h
end Go.Proofs.YtadocpoejbnhpaaDoor
